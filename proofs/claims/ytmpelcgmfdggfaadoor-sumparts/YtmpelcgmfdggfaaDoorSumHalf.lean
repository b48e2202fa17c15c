/-
  sum.shiftHalf over this program: four bits shifted down.
-/
import Derived.Test.YtmpelcgmfdggfaaDoorBase
import Derived.Test.YtmpelcgmfdggfaaDoorCrc
import Derived.Test.YtmpelcgmfdggfaaDoorChecked
namespace Go.Proofs.YtmpelcgmfdggfaaDoor
open Go.RowKit

/-- The table of halves lies in its variable. -/
def Tab (w : World) : Prop := ∀ i, i < 16 → w.cell? ⟨0, i, none⟩ = some (.int .u32 ((half i).toNat : Int))
theorem Tab.grown {w w' : World} (h : Tab w) (hg : w.grownBy w' none) : Tab w' := fun i hi => by
  have h0 := h i hi
  have hlt := World.block_lt_of_cell? w _ h0
  rw [← h0]
  exact World.cell?_of_block (hg.block _ hlt (by simp))

theorem xor32 (a b : BitVec 32) : bits .xor .u32 (a.toNat : Int) (b.toNat : Int) = ((a ^^^ b).toNat : Int) := by
  rw [u32_xor_nat _ _ a.isLt b.isLt, BitVec.toNat_xor]

/-- A call that answers a word and turns nothing. -/
def U32 (n : BitVec 32) (w : World) (e : Ending) (w' : World) : Prop := e = .returned (.int .u32 (n.toNat : Int)) ∧ w' = w

set_option maxHeartbeats 400000 in
theorem shiftHalf_any (n : BitVec 32) (w : World) (hT : Tab w) :
    Calls Tryd.prog 14 #[.int .u32 (n.toNat : Int)] w (U32 (stN 4 n) w) := by
  have hc := hT (n.toNat % 16) (by omega)
  have hx : bits .xor .u32 ((n.toNat : Int) / 16) ((half (n.toNat % 16)).toNat : Int) = ((stN 4 n).toNat : Int) := by
    rw [← half_step, ← xor32, BitVec.toNat_ushiftRight, Nat.shiftRight_eq_div_pow]
    congr 1
  have hb := n.isLt
  generalize n.toNat = N at *
  generalize half (N % 16) = h at *
  generalize h.toNat = T at *
  have HX := Lib.hid hx
  clear hx
  go_enter Tryd.func14, Tryd.ntmps14
  go_wp2
  go_ret
  refine ⟨?_, rfl⟩
  rw [← HX.out]
  rfl
end Go.Proofs.YtmpelcgmfdggfaaDoor
