/-
  A result that lies in a cell, over this program (of no layer).
-/
import Derived.Test.YtnbeakpmglefmaaRowOps
import Derived.Test.YtnbeakpmglefmaaChecked
namespace Go.Proofs.Ytnbeakpmglefmaa
open Go.RowKit

/-- A bool that lies in a cell of its own. -/
theorem results_bool {tmps : Array Value} {w : World} {f : Func} {d : Nat} {b : Bool} (hres : f.results = #[.cell d 4]) (g : Nat) (hv : tmps.getD d undef = .pointer (some ⟨g, 0, none⟩)) (hr : Row w g 4 [.bool b]) : (results f tmps).run Try.prog w = .ok (.bool b) w := by
  have hc := hr.cell (j := 0) rfl
  simp only [results, hres]
  rw [Array.getD_eq_getD_getElem?] at hv
  simp [hv, asAddr, go_sem, hc]
end Go.Proofs.Ytnbeakpmglefmaa
