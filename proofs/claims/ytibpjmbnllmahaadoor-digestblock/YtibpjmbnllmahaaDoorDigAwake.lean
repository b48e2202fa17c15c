/-
  Layer 3's 'awake' over this program: true; nothing old is turned.
-/
import Derived.Test.YtibpjmbnllmahaaDoorDigOf
import Derived.Lib.SlBytesConst
namespace Go.Proofs.YtibpjmbnllmahaaDoor
open Go.RowKit

def Awake (w : World) (e : Ending) (w' : World) : Prop := e = .returned (.bool true) ∧ w.grownBy w' none

/-- A row that has just been laid. -/
theorem Rd.new (w : World) (xs : List Value) (t : TypeId) (mk : Nat × Nat) (c : Nat) (h : xs.length ≤ c) (hc : c ≤ maxLen) :
    Rd (w.alloc (.cells xs.toArray t mk)) (.slice (some ⟨w.heap.size, 0, none⟩) xs.length c) xs := by
  refine ⟨_, c, rfl, h, hc, fun _ => ⟨_, rfl, fun j u hu => ?_⟩⟩
  have : (⟨w.heap.size, 0, none⟩ : Addr).add j = ⟨w.heap.size, j, none⟩ := by unfold Addr.add; split <;> simp_all
  rw [this, World.cell?_alloc_mark]
  simpa using hu
theorem Rd.alloc {w : World} {v : Value} {xs : List Value} (h : Rd w v xs) (o : Obj) : Rd (w.alloc o) v xs := h.grown0 (grown_alloc (grown_refl _ _) _)
theorem Tab.pos {w : World} (h : Tab w) : 0 < w.heap.size := World.block_lt_of_cell? w _ (h 0 (by decide))

/-- The digest of one slice. -/
theorem of_one (v : Value) (l : List UInt8) (w : World) (t : TypeId) (hT : Tab w) (hr : Rd w v (bytesV l)) (hlen : l.length ≤ 100000000000) :
    Calls Tryd.prog 10 #[.slice (some ⟨w.heap.size, 0, none⟩) 1 1] (w.alloc (.cells #[v] t)) (Val (.agg (bytesV (sha l)).toArray) (w.alloc (.cells #[v] t))) := by
  have h := of_any _ [v] [l] _ (hT.alloc (.cells #[v] t)) (hT.alloc (.cells #[v] t)).pos (Rd.new w [v] t (0, 0) 1 (Nat.le_refl _) (by decide)) (Parts.cons (hr.alloc _) (Parts.nil _)) (by simpa using hlen)
  simpa using h

set_option maxHeartbeats 4000000 in
theorem awake_any (w : World) (hT : Tab w) : Calls Tryd.prog 9 #[] w (Awake w) := by
  have kc := fun (w : World) (C : Array Value) (n c : Nat) => Lib.run_convert_bytes_const (P := Tryd.prog) w 22 5 C n c Tryd.underlying22 Tryd.underlying5
  have HT := Lib.hid hT
  clear hT
  go_enter Tryd.func9, Tryd.ntmps9
  go_wp2_with fail
  have h3 : Rd (w.alloc (.cells (bytesV [97, 98, 99]).toArray 5 (3, 4))) (.slice (some ⟨w.heap.size, 0, none⟩) 3 3) (bytesV [97, 98, 99]) := Rd.new w _ _ _ 3 (by decide) (by decide)
  have HO := of_one _ [97, 98, 99] _ 22 (HT.out.alloc _) h3 (by decide)
  rw [sha_abc] at HO
  have e : (w.alloc (.cells (bytesV [97, 98, 99]).toArray 5 (3, 4))).heap.size = w.heap.size + 1 := by simp
  rw [e] at HO
  refine HO.mono ?_
  clear HO h3 e kc
  rintro e w1 ⟨rfl, hg1⟩
  have hg01 : w.grownBy w1 none := (grown_alloc (grown_alloc (grown_refl _ _) _) _).trans hg1
  clear hg1
  go_wp2_with (refine wpList_store_row _ rfl rfl _ _ _ rfl w1.heap.size 24 (noughts8 32) (bytesV [186, 120, 22, 191, 143, 1, 207, 234, 65, 65, 64, 222, 93, 174, 34, 35, 176, 3, 97, 163, 150, 23, 122, 156, 180, 16, 255, 97, 242, 0, 21, 173]) rfl rfl (Row.new w1 24 (noughts8 32)) rfl (bytesV_one _) (by kernel_rfl) ?_; intro w2 hr2 hg2; have c0 : w2.cell? ⟨w1.heap.size, 0, none⟩ = some (.int .u8 186) := hr2.cell rfl; have c1 : w2.cell? ⟨w1.heap.size, 1, none⟩ = some (.int .u8 120) := hr2.cell rfl; have c2 : w2.cell? ⟨w1.heap.size, 2, none⟩ = some (.int .u8 22) := hr2.cell rfl; have c3 : w2.cell? ⟨w1.heap.size, 3, none⟩ = some (.int .u8 191) := hr2.cell rfl; have c31 : w2.cell? ⟨w1.heap.size, 31, none⟩ = some (.int .u8 173) := hr2.cell rfl; clear hr2)
  have hg02 : w.grownBy w2 none := grown_own (grown_alloc hg01 _) hg2 hg01.size
  clear hg2
  refine (start_any _).mono ?_
  rintro e w3 ⟨rfl, hg3⟩
  have hidx : ∀ w, (Instr.index 30 (.agg (wordsV start).toArray) (.int .i64 7)).run Tryd.prog w = .ok (.int .u32 1541459225) w := fun _ => by kernel_rfl
  clear c0 c1 c2 c3 c31
  go_wp2_with fail
  refine (pad_any 55 (by decide) _).mono ?_
  rintro e w4 ⟨u, rfl, hru, hg4, _⟩
  obtain ⟨A2, k2, rfl⟩ := hru.form
  have hp9 : (bytesV (pad 55)).length = 9 := by decide
  rw [hp9]
  go_wp2
  go_ret
  exact ⟨rfl, (hg02.trans hg3).trans hg4⟩
end Go.Proofs.YtibpjmbnllmahaaDoor
