/-
  coder's Reader's Tree over this program.
-/
import Derived.Test.YtohndlfekecfoaaCodRb
namespace Go.Proofs.Ytohndlfekecfoaa
set_option maxRecDepth 1000000
open Go.RowKit

/-- What a reader's Tree answers. -/
def RTOut (g : Nat) (vb : Option Nat) (gc : Nat) (t : TypeId) (B : Nat) (p : Nat × Rst × List Nat) (w : World) (e : Ending) (w' : World) : Prop :=
  e = .returned (.int .i64 ((p.1 : Int) - ((2 ^ B : Nat) : Int))) ∧ Rs w' g vb p.2.1 ∧ Row w' gc t (chV p.2.2) ∧ Wn [g, gc] w none w' none
end Go.Proofs.Ytohndlfekecfoaa
