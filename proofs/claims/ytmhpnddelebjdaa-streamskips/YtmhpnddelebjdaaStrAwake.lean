/-
  awake, over this program: what the document fixes of a quarter that is published.
-/
import Derived.Test.YtmhpnddelebjdaaStrXor
namespace Go.Proofs.Ytmhpnddelebjdaa
open Go.RowKit

def Awake (w : World) (e : Ending) (w' : World) : Prop := e = .returned (.bool true) ∧ w.grownBy w' none

theorem make_opaque (n : Nat) (hn : n ≤ 1000000000000) : ∃ C : List Value, C = bytesV (List.replicate n 0) ∧ ∀ W : World, (Instr.makeSlice 33 (.int .i64 (n : Int)) (.int .i64 (n : Int))).run Try.prog W = .ok (.slice (some ⟨W.heap.size, 0, none⟩) n n) (W.alloc (.cells C.toArray 5)) :=
  ⟨_, rfl, fun W => run_make_bytes W n hn⟩
theorem Row.rds {w : World} {g : Nat} {t : TypeId} {cs : List Value} (h : Row w g t cs) (n c : Nat) (hn : cs.length = n) (hc : n ≤ c) (hm : c ≤ maxLen) : Rd w (.slice (some ⟨g, 0, none⟩) n c) cs := by
  subst hn
  refine ⟨_, c, rfl, hc, hm, fun _ => ⟨_, rfl, fun j u hu => ?_⟩⟩
  have : (⟨g, 0, none⟩ : Addr).add j = ⟨g, j, none⟩ := by unfold Addr.add; split <;> simp_all
  rw [this]
  exact h.cell hu
theorem quarter_known (w : World) : Calls Try.prog 10 #[.int .u32 286331153, .int .u32 16909060, .int .u32 2609737539, .int .u32 19088743] w
    fun e w' => e = .returned (.tuple #[.int .u32 3928658676, .int .u32 3407673550, .int .u32 1166100270, .int .u32 1484899515]) ∧ w' = w := by
  have h := quarter_any ⟨0x11111111#32, 0x01020304#32, 0x9b8d6f43#32, 0x01234567#32⟩ w
  rw [qr_known] at h
  exact h
theorem xor_noughts (w : World) (g : Nat) (C : List Value) (hC : C = bytesV (List.replicate 65 0)) (hr : Row w g 5 C) :
    Calls Try.prog 16 #[.agg (bytesV (List.replicate 32 0)).toArray, .int .u32 0, .agg (bytesV (List.replicate 12 0)).toArray, .slice (some ⟨g, 0, none⟩) 65 65] w
      fun e w' => ∃ g', e = .returned (.slice (some ⟨g', 0, none⟩) 65 65) ∧ w.grownBy w' none := by
  subst hC
  refine (xor_any (List.replicate 32 0) rfl 0#32 (List.replicate 12 0) rfl (some ⟨g, 0, none⟩) 65 65 (List.replicate 65 0) w (hr.rds 65 65 rfl (Nat.le_refl _) (by decide)) (by decide)).mono ?_
  rintro e w' ⟨g', rfl, _, hg, _⟩
  refine ⟨g', ?_, hg⟩
  rw [xs_len]
  rfl

set_option maxHeartbeats 1000000 in
theorem awake_any (w : World) : Calls Try.prog 12 #[] w (Awake w) := by
  have HQ := Lib.hid (quarter_known w)
  obtain ⟨C, hC, hmk⟩ := make_opaque 65 (by decide)
  have hmk' : ∀ W : World, (Instr.makeSlice 33 (.int .i64 65) (.int .i64 65)).run Try.prog W = .ok (.slice (some ⟨W.heap.size, 0, none⟩) 65 65) (W.alloc (.cells C.toArray 5)) := hmk
  have HX := Lib.hid (xor_noughts (w.alloc (.cells C.toArray 5)) w.heap.size C hC (Row.new w _ C))
  clear hmk hC
  go_enter Try.func12, Try.ntmps12
  go_wp2_with fail
  refine HQ.out.mono ?_
  rintro e w1 ⟨rfl, rfl⟩
  clear HQ
  go_wp2_with fail
  refine HX.out.mono ?_
  rintro e w2 ⟨g', rfl, hg⟩
  have HG := Lib.hid hg
  clear hg HX
  go_wp2
  go_ret
  exact ⟨rfl, (grown_alloc (grown_refl _ _) _).trans HG.out⟩
end Go.Proofs.Ytmhpnddelebjdaa
