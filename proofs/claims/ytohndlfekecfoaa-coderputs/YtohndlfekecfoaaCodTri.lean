/-
  A writer, and a reader, with two lists of chances, in memory (of no program).
-/
import Derived.Test.YtohndlfekecfoaaCodRr
import Derived.Test.YtohndlfekecfoaaCodSteps
import Derived.Test.YtohndlfekecfoaaReg2
namespace Go.Proofs.Ytohndlfekecfoaa
set_option maxRecDepth 1000000
open Go.RowKit

structure W3s (w W : World) (g gc gt : Nat) (t1 t2 : TypeId) (vb : Option Nat) (X : Tri) : Prop where
  wt : Wt W g vb X.s
  rc : Row W gc t1 (chV X.c)
  rt : Row W gt t2 (chV X.t)
  ne : gc ≠ g ∧ gt ≠ g ∧ gc ≠ gt ∧ vb ≠ some gc ∧ vb ≠ some gt
  new : w.heap.size ≤ g ∧ w.heap.size ≤ gc ∧ w.heap.size ≤ gt ∧ ∀ b, vb = some b → w.heap.size ≤ b
  grow : w.grownBy W none
section
variable {w W W' : World} {g gc gt : Nat} {t1 t2 : TypeId} {vb vb' : Option Nat} {X : Tri}
theorem W3s.grown0 (h : W3s w W g gc gt t1 t2 vb X) (hg : W.grownBy W' none) : W3s w W' g gc gt t1 t2 vb X :=
  ⟨h.wt.grown0 hg, h.rc.grown0 hg, h.rt.grown0 hg, h.ne, h.new, h.grow.trans hg⟩
theorem W3s.step {S : List Nat} {S' : Cst} {c t : List Nat} (h : W3s w W g gc gt t1 t2 vb X) (ht : Wt W' g vb' S') (hc : Row W' gc t1 (chV c)) (hT : Row W' gt t2 (chV t)) (hn : Wn S W vb W' vb') (hS : ∀ b ∈ S, b = g ∨ b = gc ∨ b = gt) : W3s w W' g gc gt t1 t2 vb' ⟨S', c, t⟩ := by
  obtain ⟨n1, n2, n3, n4, n5⟩ := h.ne
  obtain ⟨k1, k2, k3, k4⟩ := h.new
  have hrow : ∀ b, vb' = some b → vb = some b ∨ W.heap.size ≤ b := fun b hb => by
    rcases hn.row with e | ⟨k, e, hk⟩
    · rw [e] at hb; exact .inl hb
    · rw [e] at hb; cases hb; exact .inr hk
  refine ⟨ht, hc, hT, ⟨n1, n2, n3, fun e => ?_, fun e => ?_⟩, ⟨k1, k2, k3, fun b hb => ?_⟩, Wn.new h.grow hn (fun b hb => by rcases hS b hb with rfl | rfl | rfl <;> assumption) k4⟩
  · rcases hrow _ e with e2 | e2
    · exact n4 e2
    · have := h.rc.lt; omega
  · rcases hrow _ e with e2 | e2
    · exact n5 e2
    · have := h.rt.lt; omega
  · rcases hrow _ hb with e2 | e2
    · exact k4 b e2
    · exact Nat.le_trans h.grow.size e2
theorem W3s.even {S' : Cst} (h : W3s w W g gc gt t1 t2 vb X) (ht : Wt W' g vb' S') (hn : Wn [g] W vb W' vb') : W3s w W' g gc gt t1 t2 vb' ⟨S', X.c, X.t⟩ := by
  obtain ⟨n1, n2, n3, n4, n5⟩ := h.ne
  exact h.step ht (h.rc.wn hn (by simpa using n1) (fun e => n4 e.symm)) (h.rt.wn hn (by simpa using n2) (fun e => n5 e.symm)) hn (fun b hb => .inl (List.mem_singleton.1 hb))
theorem W3s.bit {S' : Cst} {c : List Nat} (h : W3s w W g gc gt t1 t2 vb X) (ht : Wt W' g vb' S') (hc : Row W' gc t1 (chV c)) (hn : Wn [g, gc] W vb W' vb') : W3s w W' g gc gt t1 t2 vb' ⟨S', c, X.t⟩ := by
  obtain ⟨n1, n2, n3, n4, n5⟩ := h.ne
  exact h.step ht hc (h.rt.wn hn (by simp; exact ⟨n2, fun e => n3 e.symm⟩) (fun e => n5 e.symm)) hn (fun b hb => by simp at hb; omega)
theorem W3s.tree {S' : Cst} {t : List Nat} (h : W3s w W g gc gt t1 t2 vb X) (ht : Wt W' g vb' S') (hT : Row W' gt t2 (chV t)) (hn : Wn [g, gt] W vb W' vb') : W3s w W' g gc gt t1 t2 vb' ⟨S', X.c, t⟩ := by
  obtain ⟨n1, n2, n3, n4, n5⟩ := h.ne
  exact h.step ht (h.rc.wn hn (by simp; exact ⟨n1, n3⟩) (fun e => n4 e.symm)) hT hn (fun b hb => by simp at hb; omega)
end

structure R3s (w W : World) (g gc gt : Nat) (t1 t2 : TypeId) (vb : Option Nat) (R : Rst) (c t : List Nat) : Prop where
  rs : Rs W g vb R
  rc : Row W gc t1 (chV c)
  rt : Row W gt t2 (chV t)
  ne : gc ≠ g ∧ gt ≠ g ∧ gc ≠ gt ∧ vb ≠ some gc ∧ vb ≠ some gt
  new : w.heap.size ≤ g ∧ w.heap.size ≤ gc ∧ w.heap.size ≤ gt
  grow : w.grownBy W none
section
variable {w W W' : World} {g gc gt : Nat} {t1 t2 : TypeId} {vb : Option Nat} {R R' : Rst} {c t : List Nat}
theorem R3s.grown0 (h : R3s w W g gc gt t1 t2 vb R c t) (hg : W.grownBy W' none) : R3s w W' g gc gt t1 t2 vb R c t :=
  ⟨h.rs.grown0 hg, h.rc.grown0 hg, h.rt.grown0 hg, h.ne, h.new, h.grow.trans hg⟩
theorem R3s.even (h : R3s w W g gc gt t1 t2 vb R c t) (hr : Rs W' g vb R') (hg : W.grownBy W' (some g)) : R3s w W' g gc gt t1 t2 vb R' c t := by
  obtain ⟨n1, n2, n3, n4, n5⟩ := h.ne
  exact ⟨hr, h.rc.grown hg (fun e => by cases e; exact n1 rfl), h.rt.grown hg (fun e => by cases e; exact n2 rfl), h.ne, h.new, grown_own h.grow hg h.new.1⟩
theorem R3s.bit {c' : List Nat} (h : R3s w W g gc gt t1 t2 vb R c t) (hr : Rs W' g vb R') (hc : Row W' gc t1 (chV c')) (hn : Wn [g, gc] W none W' none) : R3s w W' g gc gt t1 t2 vb R' c' t := by
  obtain ⟨n1, n2, n3, n4, n5⟩ := h.ne
  obtain ⟨k1, k2, k3⟩ := h.new
  exact ⟨hr, hc, h.rt.wn hn (by simp; exact ⟨n2, fun e => n3 e.symm⟩) (by simp), h.ne, h.new, Wn.new h.grow hn (fun b hb => by simp at hb; omega) (fun b hb => by cases hb)⟩
theorem R3s.tree {t' : List Nat} (h : R3s w W g gc gt t1 t2 vb R c t) (hr : Rs W' g vb R') (hT : Row W' gt t2 (chV t')) (hn : Wn [g, gt] W none W' none) : R3s w W' g gc gt t1 t2 vb R' c t' := by
  obtain ⟨n1, n2, n3, n4, n5⟩ := h.ne
  obtain ⟨k1, k2, k3⟩ := h.new
  exact ⟨hr, h.rc.wn hn (by simp; exact ⟨n1, n3⟩) (by simp), hT, h.ne, h.new, Wn.new h.grow hn (fun b hb => by simp at hb; omega) (fun b hb => by cases hb)⟩
/-- In the midst of a region that turns the reader's block and its chances'. -/
theorem Rs.keepH {w w' : World} {g : Nat} {vb : Option Nat} {r : Rst} (h : Rs w g vb r) (hg : w'.heap[g]? = w.heap[g]?) (hv : ∀ b, vb = some b → b < w.heap.size → w'.heap[b]? = w.heap[b]?) : Rs w' g vb r := by
  obtain ⟨v, hrow, hrd, hvb, hne⟩ := h
  exact ⟨v, hg.trans hrow, hrd.keep (fun b hb hlt => hv b (hvb b hb) hlt), hvb, hne⟩
theorem R3s.midst (h : R3s w W g gc gt t1 t2 vb R c t) (ha : ∀ b, b ∈ [g, gc] → b < W.heap.size → W'.heap[b]? = W.heap[b]?) (hg : GrownX [g, gc] W.drew W') : R3s w W' g gc gt t1 t2 vb R c t := by
  obtain ⟨n1, n2, n3, n4, n5⟩ := h.ne
  obtain ⟨k1, k2, k3⟩ := h.new
  have hb : ∀ b, b < W.heap.size → b ∉ [g, gc] → W'.heap[b]? = W.heap[b]? := fun b hb hn => hg.block b hb hn
  refine ⟨h.rs.keepH (ha g (by simp) h.rs.lt) (fun b e hlt => hb b hlt (fun hm => ?_)), (ha gc (by simp) h.rc.lt).trans h.rc, (hb gt h.rt.lt (by simp; exact ⟨n2, fun e => n3 e.symm⟩)).trans h.rt, h.ne, h.new, ⟨hg.os.trans h.grow.os, hg.tape.trans h.grow.tape, hg.output.trans h.grow.output, Nat.le_trans h.grow.size hg.size, fun b hlt _ => ?_⟩⟩
  · obtain ⟨v, _, _, _, hne⟩ := h.rs
    simp at hm
    rcases hm with e2 | e2
    · exact hne (by rw [e, e2])
    · exact n4 (by rw [e, e2])
  · exact (hb b (Nat.lt_of_lt_of_le hlt h.grow.size) (by simp; omega)).trans (h.grow.block b hlt (by simp))
end
end Go.Proofs.Ytohndlfekecfoaa
