/-
  An argument that is a number of 16 bits, as a number.
-/
import Derived.Test.YtlmdjkahbejcdaaLiftBase
namespace Go.Proofs.Ytlmdjkahbejcdaa
open Go.ChangeShapes Go.WideShapes Go.ChangeAt Go.RowKit

theorem of_q16 {a : Int} (h : (Lit.int .u16 a).wf = true) : ∃ n : Nat, a = (n : Int) ∧ n < 65536 := by
  have hb : 0 ≤ a ∧ a ≤ 65535 := by simpa [Lit.wf, IntKind.min, IntKind.max, IntKind.bits, IntKind.signed] using h
  exact ⟨a.toNat, by omega, by omega⟩
end Go.Proofs.Ytlmdjkahbejcdaa
