/-
  An argument that is a byte, as a number.
-/
import Derived.Test.YtbpnkcjaekbcdaaLiftBase
namespace Go.Proofs.Ytbpnkcjaekbcdaa
open Go.ChangeShapes Go.WideShapes Go.ChangeAt Go.RowKit

theorem of_q8 {a : Int} (h : (Lit.int .u8 a).wf = true) : ∃ n : Nat, a = (n : Int) ∧ n < 256 := by
  have hb : 0 ≤ a ∧ a ≤ 255 := by simpa [Lit.wf, IntKind.min, IntKind.max, IntKind.bits, IntKind.signed] using h
  exact ⟨a.toNat, by omega, by omega⟩
end Go.Proofs.Ytbpnkcjaekbcdaa
