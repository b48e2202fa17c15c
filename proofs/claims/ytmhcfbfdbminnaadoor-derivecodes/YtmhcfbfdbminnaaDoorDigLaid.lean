/-
  Layer 3's one listed variable: the table of roots, as it lies when the call begins.
-/
import Derived.Test.YtmhcfbfdbminnaaDoorLift
import Derived.Test.YtmhcfbfdbminnaaDoorDigTurned
import Derived.LaidMore
import Derived.Stop.Joined
import Derived.Lib.LaidTab
namespace Go.Proofs.YtmhcfbfdbminnaaDoor
open Go.ChangeShapes Go.WideShapes Go.ChangeAt Go.RowKit

def laidL : List (String × DataW Unit) := [("portmanteau/digest.roots", Rows.laid_portmanteau_digest_roots)]
theorem gRoots : Tryd.prog.globalNamed "portmanteau/digest.roots" = some 0 := by kernel_rfl
theorem tRoots : (Tryd.prog.globals[0]?).map (·.type) = some 64 := by kernel_rfl
theorem cRoots : Tryd.prog.cellsOf 64 = 64 := by kernel_rfl
theorem cWord : Tryd.prog.cellsOf 43 = 1 := by kernel_rfl

theorem door_met (os : Os) (args : Array Value) : laidMetH Tryd.prog laidL ((World.doorLaid Tryd.prog 14 os).forCall (fun _ _ => 0) ⟨#[], args, []⟩).memory :=
  laidMetH_of_parts3 (fuel := 8) (laidMet_of_run' 8 (by kernel_rfl) (by kernel_rfl)) (by kernel_rfl) (by kernel_rfl)

theorem root_tab : ∀ i : Fin 64, kN[i.val]? = some (kAt i.val).toNat := by decide
theorem tab_of_laid {W : World} (h : laidMetH Tryd.prog laidL W) : Tab W := by
  rw [MakeChecks.laidMetH_plain _ _ _ (by kernel_rfl)] at h
  have hT := Lib.tabIs_of_head (k := .u32) (zs := kN.map fun n : Nat => (n : Int)) (rest := []) gRoots tRoots Tryd.underlying64 Tryd.underlying43 cWord cRoots h
  intro i hi
  have h1 := root_tab ⟨i, hi⟩
  rw [hT.cell gRoots i (by simpa [kN] using hi)]
  simp only at h1
  simp [List.getD_eq_getElem?_getD, h1]
end Go.Proofs.YtmhcfbfdbminnaaDoor
