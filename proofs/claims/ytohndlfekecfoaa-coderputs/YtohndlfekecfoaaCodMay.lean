/-
  CoderBack's own function: which steps may be, over this program.
-/
import Derived.Test.YtohndlfekecfoaaCodAwake
import Derived.Test.YtohndlfekecfoaaCodSteps
namespace Go.Proofs.Ytohndlfekecfoaa
set_option maxRecDepth 1000000
open Go.RowKit

/-- A step as a value. -/
def doV (d : Dos) : Value := .agg #[.int .i64 d.verb, .int .i64 d.k, .int .i64 d.n, .int .i64 d.bits]
/-- What the function answers. -/
def Says (b : Bool) (d : Dos) : Prop := b = true ↔ may0 d ∨ may1 d ∨ may2 d
def MayOut (d : Dos) (w : World) (e : Ending) (w' : World) : Prop := (∃ b : Bool, e = .returned (.bool b) ∧ Says b d) ∧ w.grownBy w' none
theorem yes0 {d : Dos} (h : may0 d) : Says true d := ⟨fun _ => .inl h, fun _ => rfl⟩
theorem yes1 {d : Dos} (h : may1 d) : Says true d := ⟨fun _ => .inr (.inl h), fun _ => rfl⟩
theorem yes2 {d : Dos} (h : may2 d) : Says true d := ⟨fun _ => .inr (.inr h), fun _ => rfl⟩
theorem no3 {d : Dos} (h0 : ¬ may0 d) (h1 : ¬ may1 d) (h2 : ¬ may2 d) : Says false d := ⟨(fun h => by cases h), (fun h => absurd h (by rintro (h | h | h); exact h0 h; exact h1 h; exact h2 h))⟩
end Go.Proofs.Ytohndlfekecfoaa
