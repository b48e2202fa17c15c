/-
  Layer 2's one listed variable: the table of halves, as it lies when the call begins.
-/
import Derived.Test.YtmpelcgmfdggfaaDoorLift
import Derived.Test.YtmpelcgmfdggfaaDoorSumHalf
import Derived.LaidMore
import Derived.Stop.Joined
import Derived.Lib.LaidTab
namespace Go.Proofs.YtmpelcgmfdggfaaDoor
open Go.ChangeShapes Go.WideShapes Go.ChangeAt Go.RowKit

def laidL : List (String × DataW Unit) := [("portmanteau/sum.halves", Rows.laid_portmanteau_sum_halves)]
theorem gHalves : Tryd.prog.globalNamed "portmanteau/sum.halves" = some 0 := by kernel_rfl
theorem tHalves : (Tryd.prog.globals[0]?).map (·.type) = some 37 := by kernel_rfl
theorem cHalves : Tryd.prog.cellsOf 37 = 16 := by kernel_rfl
theorem cWord : Tryd.prog.cellsOf 24 = 1 := by kernel_rfl

theorem door_met (os : Os) (args : Array Value) : laidMetH Tryd.prog laidL ((World.doorLaid Tryd.prog 14 os).forCall (fun _ _ => 0) ⟨#[], args, []⟩).memory :=
  laidMetH_of_parts3 (fuel := 8) (laidMet_of_run' 8 (by kernel_rfl) (by kernel_rfl)) (by kernel_rfl) (by kernel_rfl)

theorem tab_of_laid {W : World} (h : laidMetH Tryd.prog laidL W) : Tab W := by
  rw [MakeChecks.laidMetH_plain _ _ _ (by kernel_rfl)] at h
  have hT := Lib.tabIs_of_head (k := .u32) (zs := halvesN.map fun n : Nat => (n : Int)) (rest := []) gHalves tHalves Tryd.underlying37 Tryd.underlying24 cWord cHalves h
  intro i hi
  have h1 := half_tab ⟨i, hi⟩
  rw [hT.cell gHalves i (by simpa [halvesN] using hi)]
  simp only at h1
  simp [List.getD_eq_getElem?_getD, h1]
end Go.Proofs.YtmpelcgmfdggfaaDoor
