/-
  What the calls of a ring turn (of no program).
-/
import Derived.Test.YtnbeakpmglefmaaRow
import Derived.Test.YtnbeakpmglefmaaRngM
namespace Go.Proofs.Ytnbeakpmglefmaa
open Go.RowKit

/-- From W0 to W nothing that lay there is turned but the ring's block g and the row vb0 of its things; vb is their row then. -/
structure Went (W0 : World) (g : Nat) (vb0 : Option Nat) (W : World) (vb : Option Nat) : Prop where
  os : W.os = W0.os
  tape : W.tape = W0.tape
  output : W.output = W0.output
  size : W0.heap.size ≤ W.heap.size
  block : ∀ k, k < W0.heap.size → k ≠ g → some k ≠ vb0 → W.heap[k]? = W0.heap[k]?
  row : vb = vb0 ∨ ∃ b, vb = some b ∧ W0.heap.size ≤ b
theorem Went.refl (W : World) (g : Nat) (vb : Option Nat) : Went W g vb W vb := ⟨rfl, rfl, rfl, Nat.le_refl _, fun _ _ _ _ => rfl, .inl rfl⟩
theorem Went.trans {W0 W1 W2 : World} {g : Nat} {v0 v1 v2 : Option Nat} (h : Went W0 g v0 W1 v1) (k : Went W1 g v1 W2 v2) : Went W0 g v0 W2 v2 := by
  refine ⟨k.os.trans h.os, k.tape.trans h.tape, k.output.trans h.output, Nat.le_trans h.size k.size, fun i hi hg hv => ?_, ?_⟩
  · refine (k.block i (Nat.lt_of_lt_of_le hi h.size) hg ?_).trans (h.block i hi hg hv)
    rcases h.row with e | ⟨b, e, hb⟩
    · rw [e]; exact hv
    · rw [e]; intro e2; cases e2; omega
  · rcases k.row with e | ⟨b, e, hb⟩
    · rw [e]; exact h.row
    · exact .inr ⟨b, e, Nat.le_trans h.size hb⟩
theorem Went.grown {W0 W1 W2 : World} {g : Nat} {v0 v1 : Option Nat} (h : Went W0 g v0 W1 v1) (k : W1.grownBy W2 none) : Went W0 g v0 W2 v1 :=
  ⟨k.os.trans h.os, k.tape.trans h.tape, k.output.trans h.output, Nat.le_trans h.size k.size, fun i hi hg hv => (k.block i (Nat.lt_of_lt_of_le hi h.size) (by simp)).trans (h.block i hi hg hv), h.row⟩
/-- A ring that is new since w. -/
theorem Went.new {w W0 W : World} {g : Nat} {v : Option Nat} {v0 : Option Nat} (h : w.grownBy W0 none) (k : Went W0 g v0 W v) (hg : w.heap.size ≤ g) (hv : ∀ b, v0 = some b → w.heap.size ≤ b) : w.grownBy W none :=
  ⟨k.os.trans h.os, k.tape.trans h.tape, k.output.trans h.output, Nat.le_trans h.size k.size, fun i hi _ => (k.block i (Nat.lt_of_lt_of_le hi h.size) (by omega) (fun e => by have := hv i e.symm; omega)).trans (h.block i hi (by simp))⟩
theorem Rd.went {W0 W : World} {g : Nat} {v0 v1 : Option Nat} {v : Value} {xs : List Value} (h : Rd W0 v xs) (k : Went W0 g v0 W v1) (hg : ∀ b, v.ownBlock = some b → b ≠ g ∧ some b ≠ v0) : Rd W v xs :=
  h.keep fun b hb hlt => k.block b hlt (hg b hb).1 (hg b hb).2
theorem Row.went {W0 W : World} {g b : Nat} {v0 v1 : Option Nat} {t : TypeId} {cs : List Value} (h : Row W0 b t cs) (k : Went W0 g v0 W v1) (hg : b ≠ g ∧ some b ≠ v0) : Row W b t cs :=
  (k.block b h.lt hg.1 hg.2).trans h
/-- A call that only reads. -/
def Saw (v : Value) (w : World) (e : Ending) (w' : World) : Prop := e = .returned v ∧ ∃ m, w' = w.drewN m
theorem Saw.grew {v : Value} {w w' : World} {e : Ending} (h : Saw v w e w') : e = .returned v ∧ w.grownBy w' none := by
  obtain ⟨h1, m, rfl⟩ := h
  exact ⟨h1, grown_drewN (grown_refl _ _) _⟩
theorem Calls.seen {P : Program} {f : FuncId} {args : Array Value} {v : Value} {w : World} (h : Calls P f args w (Saw v w)) : Calls P f args w fun e w' => e = .returned v ∧ w.grownBy w' none := h.mono fun _ _ x => x.grew
theorem grown_drewn (w : World) (m : Nat) : w.grownBy (w.drewN m) none := grown_drewN (grown_refl _ _) _
end Go.Proofs.Ytnbeakpmglefmaa
