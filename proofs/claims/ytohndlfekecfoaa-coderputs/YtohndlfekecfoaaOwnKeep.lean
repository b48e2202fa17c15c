/-
  A row of the call's own, kept while memory grows.
-/
import Derived.Test.YtohndlfekecfoaaAppBytes
namespace Go.Proofs.Ytohndlfekecfoaa
set_option maxRecDepth 1000000
open Go.RowKit

theorem own_keepN {w w' : World} {base : Nat} {e : TypeId} {v : Value} {n : Nat} {xs : List Value} (h : w.ownsRow base e 1 v n xs) (hg : w.grownBy w' none) : w'.ownsRow base e 1 v n xs := by
  refine h.kept hg ?_
  cases hv : v.ownBlock with
  | none => exact .inl rfl
  | some b => exact .inr (by simp)
theorem own_form {W : World} {base : Nat} {v : Value} {n : Nat} {l : List Value} (h : W.ownsRow base 5 1 v n l) : ∃ A c, v = .slice A n c := by
  obtain ⟨A, c, e⟩ := (Rd.of_own h).form
  rw [h.1, Nat.mul_one] at e
  exact ⟨A, c, e⟩

end Go.Proofs.Ytohndlfekecfoaa
