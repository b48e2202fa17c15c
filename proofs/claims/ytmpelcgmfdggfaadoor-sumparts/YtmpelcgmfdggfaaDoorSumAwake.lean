/-
  Layer 2's 'awake' over this program: true; nothing old is turned.
-/
import Derived.Test.YtmpelcgmfdggfaaDoorSumForge
import Derived.Lib.SlBytesConst
namespace Go.Proofs.YtmpelcgmfdggfaaDoor
open Go.RowKit

def Awake (w : World) (e : Ending) (w' : World) : Prop := e = .returned (.bool true) ∧ w.grownBy w' none

/-- A row that has just been laid. -/
theorem Rd.new (w : World) (xs : List Value) (t : TypeId) (mk : Nat × Nat) (c : Nat) (h : xs.length ≤ c) (hc : c ≤ maxLen) :
    Rd (w.alloc (.cells xs.toArray t mk)) (.slice (some ⟨w.heap.size, 0, none⟩) xs.length c) xs := by
  refine ⟨_, c, rfl, h, hc, fun _ => ⟨_, rfl, fun j u hu => ?_⟩⟩
  have : (⟨w.heap.size, 0, none⟩ : Addr).add j = ⟨w.heap.size, j, none⟩ := by unfold Addr.add; split <;> simp_all
  rw [this, World.cell?_alloc_mark]
  simpa using hu
theorem Rd.alloc {w : World} {v : Value} {xs : List Value} (h : Rd w v xs) (o : Obj) : Rd (w.alloc o) v xs := h.grown0 (grown_alloc (grown_refl _ _) _)
theorem Tab.alloc {w : World} (h : Tab w) (o : Obj) : Tab (w.alloc o) := h.grown (grown_alloc (grown_refl _ _) _)

/-- The sum of one slice. -/
theorem of_one (A : Option Addr) (n c : Nat) (l : List UInt8) (w : World) (t : TypeId) (hT : Tab w) (hr : Rd w (.slice A n c) (bytesV l)) :
    Calls Tryd.prog 10 #[.slice (some ⟨w.heap.size, 0, none⟩) 1 1] (w.alloc (.cells #[.slice A n c] t)) (U32 (crc l) (w.alloc (.cells #[.slice A n c] t))) := by
  have h := of_any _ [.slice A n c] [l] _ (hT.alloc (.cells #[.slice A n c] t)) (Rd.new w [.slice A n c] t (0, 0) 1 (Nat.le_refl _) (by decide)) (Parts.cons (hr.alloc _) (Parts.nil _))
  simpa using h
theorem of_none (w : World) (hT : Tab w) : Calls Tryd.prog 10 #[.slice none 0 0] w (U32 0#32 w) := by
  have h := of_any _ [] [] w hT (Rd.nil w) (Parts.nil _)
  rw [List.flatten_nil, crc_nil] at h
  exact h
theorem crc_nine : crc [49, 50, 51, 52, 53, 54, 55, 56, 57] = 3808858755#32 := by decide +kernel

set_option maxHeartbeats 1000000 in
theorem awake_any (w : World) (hT : Tab w) : Calls Tryd.prog 9 #[] w (Awake w) := by
  have kc := fun (w : World) (C : Array Value) (n c : Nat) => Lib.run_convert_bytes_const (P := Tryd.prog) w 22 5 C n c Tryd.underlying22 Tryd.underlying5
  have HT := Lib.hid hT
  clear hT
  go_enter Tryd.func9, Tryd.ntmps9
  go_wp2_with fail
  have h9 : Rd (w.alloc (.cells (bytesV [49, 50, 51, 52, 53, 54, 55, 56, 57]).toArray 5 (9, 10))) (.slice (some ⟨w.heap.size, 0, none⟩) 9 9) (bytesV [49, 50, 51, 52, 53, 54, 55, 56, 57]) := Rd.new w _ _ _ 9 (by decide) (by decide)
  have HO := of_one _ 9 9 [49, 50, 51, 52, 53, 54, 55, 56, 57] _ 22 (HT.out.alloc _) h9
  rw [crc_nine] at HO
  have e : (w.alloc (.cells (bytesV [49, 50, 51, 52, 53, 54, 55, 56, 57]).toArray 5 (9, 10))).heap.size = w.heap.size + 1 := by simp
  rw [e] at HO
  refine HO.mono ?_
  clear HO h9 e kc
  rintro e w1 ⟨rfl, rfl⟩
  go_wp2_with fail
  refine (of_none _ ((HT.out.alloc _).alloc _)).mono ?_
  rintro e w1 ⟨rfl, rfl⟩
  go_wp2
  go_ret
  exact ⟨rfl, grown_alloc (grown_alloc (grown_refl _ _) _) _⟩
end Go.Proofs.YtmpelcgmfdggfaaDoor
