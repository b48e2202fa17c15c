/-
  What lies in memory, as a list of rows (of no program).
-/
import Derived.Test.YtnbeakpmglefmaaRnd
namespace Go.Proofs.Ytnbeakpmglefmaa
open Go.RowKit

/-- These blocks hold these cells. -/
def Lies (W : World) (E : List (Nat × TypeId × List Value)) : Prop := ∀ p ∈ E, Row W p.1 p.2.1 p.2.2
theorem Lies.nil (W : World) : Lies W [] := fun _ h => by cases h
theorem Lies.cons {W : World} {g : Nat} {t : TypeId} {cs : List Value} {E : List (Nat × TypeId × List Value)} (h : Row W g t cs) (k : Lies W E) : Lies W ((g, t, cs) :: E) := fun p hp => by
  rcases List.mem_cons.1 hp with rfl | hp
  · exact h
  · exact k p hp
theorem Lies.head {W : World} {g : Nat} {t : TypeId} {cs : List Value} {E : List (Nat × TypeId × List Value)} (h : Lies W ((g, t, cs) :: E)) : Row W g t cs := h (g, t, cs) List.mem_cons_self
theorem Lies.tail {W : World} {p : Nat × TypeId × List Value} {E : List (Nat × TypeId × List Value)} (h : Lies W (p :: E)) : Lies W E := fun q hq => h q (List.mem_cons_of_mem _ hq)
theorem Lies.own {B : Nat} {W W' : World} {E : List (Nat × TypeId × List Value)} {row : Option Nat} (h : Lies W E) (hg : W.grownBy W' row) (hr : ∀ r, row = some r → B ≤ r ∧ ∃ o : Obj, W.heap[r]? = some o ∧ o.isCells = false) : Lies W' E := fun p hp => (h p hp).own hg hr
theorem Lies.grown0 {W W' : World} {E : List (Nat × TypeId × List Value)} (h : Lies W E) (hg : W.grownBy W' none) : Lies W' E := fun p hp => (h p hp).grown0 hg
theorem Lies.grown {W W' : World} {E : List (Nat × TypeId × List Value)} {row : Option Nat} (h : Lies W E) (hg : W.grownBy W' row) (hne : ∀ p ∈ E, some p.1 ≠ row) : Lies W' E := fun p hp => (h p hp).grown hg (hne p hp)
theorem Lies.lt {W : World} {E : List (Nat × TypeId × List Value)} (h : Lies W E) : ∀ p ∈ E, p.1 < W.heap.size := fun p hp => (h p hp).lt
/-- The first one's only cell is turned. -/
theorem Lies.set {W : World} {g : Nat} {t : TypeId} {v : Value} {E : List (Nat × TypeId × List Value)} (h : Lies W ((g, t, [v]) :: E)) (hne : ∀ p ∈ E, g ≠ p.1) (u : Value) : Lies (W.setCell ⟨g, 0, none⟩ u) ((g, t, [u]) :: E) :=
  Lies.cons (h.head.set 0 u) (h.tail.grown (grown_set W g 0 u) (fun p hp e => hne p hp (by injection e with e; exact e.symm)))
end Go.Proofs.Ytnbeakpmglefmaa
