/-
  The document's own Write of layer 11: what it keeps in memory.
-/
import Derived.Test.YtibofgokdjbomaaPkRtree
import Derived.Test.YtibofgokdjbomaaMPkA
import Derived.Test.YtibofgokdjbomaaTokPut
namespace Go.Proofs.Ytibofgokdjbomaa
set_option maxRecDepth 1000000
open Go.RowKit

theorem key_kind {k : Nat} (h : k ≤ 1) : (k : Int) = refKey k := by unfold refKey; rw [if_pos (by omega)]
theorem key_lits {w q : Nat} (hw : w < 8) (hq : q < 256) : refKey (2 + 256 * w + q) = 10000 + 1000 * (w : Int) + (q : Int) := by
  unfold refKey
  rw [if_neg (by omega), if_pos (by omega)]
  omega
theorem key_lens {q : Nat} (hq : q < 256) : refKey (2050 + q) = 1000 + (q : Int) := by
  unfold refKey
  rw [if_neg (by omega), if_neg (by omega), if_pos (by omega)]
  omega
theorem key_backs {q : Nat} : refKey (2306 + q) = 2000 + (q : Int) := by
  unfold refKey
  rw [if_neg (by omega), if_neg (by omega), if_neg (by omega)]
  omega
theorem min_kind (t : Tok) (h : 0 ≤ t.len) : min t.len 1 = ((kindN t : Nat) : Int) := by unfold kindN; split <;> omega
theorem kind_bit (t : Tok) : (kindN t : Int) = ((decide (0 < t.len)).toNat : Int) := by unfold kindN; split <;> simp [*]

/-- What Write keeps: a state in a box, its bytes, its chances, the bytes so far. -/
structure WrR (w W : World) (gs gb n : Nat) (v : Value) (S : Cst) (L : List Nat) (u : Value) (h : List UInt8) : Prop where
  row : Row W gs 96 (sC v S gb)
  rd : Rd W v (bytesV S.out)
  map : ∃ M, Mi W gb n M ∧ MR M L
  own : W.ownsRow w.heap.size 5 1 u h.length (bytesV h)
  off : ∀ k, u.ownBlock = some k → k ≠ gs ∧ k ≠ gb ∧ (S.out ≠ [] → v.ownBlock ≠ some k)
  new : w.heap.size ≤ gs ∧ w.heap.size ≤ gb ∧ gb ≠ gs
  vnw : S.out ≠ [] → ∀ k, v.ownBlock = some k → w.heap.size ≤ k ∧ k < W.heap.size
  grow : w.grownBy W none
/-- And a token in a box. -/
structure WrT (w W : World) (gs gb n : Nat) (v : Value) (S : Cst) (L : List Nat) (u : Value) (h : List UInt8) (gt : Nat) (t : Tok) : Prop where
  r : WrR w W gs gb n v S L u h
  tk : Row W gt 41 (tokC t)
  ne : gt ≠ gs ∧ gt ≠ gb ∧ ∀ k, u.ownBlock = some k → k ≠ gt
section
variable {w W W' W4 : World} {gs gb n n' : Nat} {v v' : Value} {S S' : Cst} {L L' : List Nat} {u u' : Value} {h : List UInt8} {gt : Nat} {t : Tok}
theorem WrR.grown0 (k : WrR w W gs gb n v S L u h) (hg : W.grownBy W' none) : WrR w W' gs gb n v S L u h := by
  obtain ⟨M, m1, m2⟩ := k.map
  exact ⟨k.row.grown0 hg, k.rd.grown0 hg, ⟨M, m1.grown0 hg, m2⟩, own_grown k.own hg, k.off, k.new, fun he j hj => ⟨(k.vnw he j hj).1, Nat.lt_of_lt_of_le (k.vnw he j hj).2 hg.size⟩, k.grow.trans hg⟩
theorem WrT.grown0 (k : WrT w W gs gb n v S L u h gt t) (hg : W.grownBy W' none) : WrT w W' gs gb n v S L u h gt t := ⟨k.r.grown0 hg, k.tk.grown0 hg, k.ne⟩
theorem sC_no (v : Value) (S : Cst) (gb : Nat) {l : List UInt8} {W : World} (hr : Rd W v (bytesV l)) (z : Int) : Value.int .u8 z ∉ sC v S gb := by
  obtain ⟨A, c, rfl⟩ := hr.form
  simp [sC]
theorem Rd.ltE {W : World} {v : Value} {l : List UInt8} (h : Rd W v (bytesV l)) (hl : l ≠ []) {b : Nat} (hb : v.ownBlock = some b) : b < W.heap.size := by
  obtain ⟨A, c, rfl⟩ := h.form
  have hl' : bytesV l ≠ [] := by cases l with
    | nil => exact absurd rfl hl
    | cons => simp [bytesV]
  obtain ⟨ad, e, hc⟩ := h.cells hl'
  subst e
  have := World.block_lt_of_cell? W _ (hc 0 _ (List.getElem?_eq_getElem (List.length_pos_iff.2 hl')))
  rw [add_block] at this
  cases hb
  exact this
/-- A step of the state, laid into its box. -/
theorem WrR.step {p : Cst × List Nat} {M : Int → Option Int} (k : WrR w W gs gb n v S L u h) (hr : Rd W' v' (bytesV p.1.out)) (hm : Mi W' gb n' M) (hM : MR M p.2) (hg : W.grownBy W' (some gb)) (hs : p.1.out ≠ [] → ∀ j, v'.ownBlock = some j → (S.out ≠ [] ∧ v.ownBlock = some j) ∨ W.heap.size ≤ j)
    (hR : Row W4 gs 96 (sC v' p.1 gb)) (hg4 : W'.grownBy W4 (some gs)) : WrR w W4 gs gb n' v' p.1 p.2 u h := by
  obtain ⟨n1, n2, n3⟩ := k.new
  have hgs : gs < W.heap.size := k.row.lt
  have hrow' : Row W' gs 96 (sC v S gb) := k.row.grown hg (fun e => n3 (Option.some.inj e).symm)
  refine ⟨hR, hr.keepT hrow' (sC_no v S gb k.rd) hg4, ⟨M, hm.kept hg4 (fun e => n3 (Option.some.inj e)), hM⟩, own_same (own_same k.own (fun j hj => hg.block j (k.own.lt j hj).2 (fun e => (k.off j hj).2.1 (Option.some.inj e)))) (fun j hj => hg4.block j (Nat.lt_of_lt_of_le (k.own.lt j hj).2 hg.size) (fun e => (k.off j hj).1 (Option.some.inj e))), fun j hj => ⟨(k.off j hj).1, (k.off j hj).2.1, fun he e => ?_⟩, k.new, fun he j hj => ⟨?_, Nat.lt_of_lt_of_le (hr.ltE he hj) hg4.size⟩, grown_own (grown_own k.grow hg n2) hg4 n1⟩
  · rcases hs he j e with ⟨h1, h2⟩ | h1
    · exact (k.off j hj).2.2 h1 h2
    · have := (k.own.lt j hj).2; omega
  · rcases hs he j hj with ⟨h1, h2⟩ | h1
    · exact (k.vnw h1 j h2).1
    · exact Nat.le_trans k.grow.size h1
theorem WrT.step {p : Cst × List Nat} {M : Int → Option Int} (k : WrT w W gs gb n v S L u h gt t) (hr : Rd W' v' (bytesV p.1.out)) (hm : Mi W' gb n' M) (hM : MR M p.2) (hg : W.grownBy W' (some gb)) (hs : p.1.out ≠ [] → ∀ j, v'.ownBlock = some j → (S.out ≠ [] ∧ v.ownBlock = some j) ∨ W.heap.size ≤ j)
    (hR : Row W4 gs 96 (sC v' p.1 gb)) (hg4 : W'.grownBy W4 (some gs)) : WrT w W4 gs gb n' v' p.1 p.2 u h gt t :=
  ⟨k.r.step hr hm hM hg hs hR hg4, (k.tk.grown hg (fun e => k.ne.2.1 (Option.some.inj e))).grown hg4 (fun e => k.ne.1 (Option.some.inj e)), k.ne⟩
/-- A step of the writer alone. -/
theorem WrT.even (k : WrT w W gs gb n v S L u h gt t) (hg : W.grownBy W' none) (hr : Rd W' v' (bytesV S'.out)) (hs : S'.out ≠ [] → ∀ j, v'.ownBlock = some j → (S.out ≠ [] ∧ v.ownBlock = some j) ∨ W.heap.size ≤ j)
    (hR : Row W4 gs 96 (sC v' S' gb)) (hg4 : W'.grownBy W4 (some gs)) : WrT w W4 gs gb n v' S' L u h gt t := by
  obtain ⟨M, m1, m2⟩ := k.r.map
  exact k.step (p := (S', L)) hr (m1.grown0 hg) m2 ⟨hg.os, hg.tape, hg.output, hg.size, fun j hj _ => hg.block j hj (by simp)⟩ hs hR hg4
/-- A byte more. -/
theorem WrT.app {c : UInt8} (k : WrT w W gs gb n v S L u h gt t) (ho : W'.ownsRow w.heap.size 5 1 u' (h.length + 1) (bytesV h ++ bytesV [c])) (hg : W.grownBy W' u.ownBlock) (hat : u'.ownBlock = u.ownBlock ∨ u'.ownBlock = some W.heap.size) : WrT w W' gs gb n v S L u' (h ++ [c]) gt t := by
  obtain ⟨M, m1, m2⟩ := k.r.map
  have hk := k.r
  refine ⟨⟨hk.row.grown hg (fun e => (hk.off gs e.symm).1 rfl), hk.rd.keepE (fun he j hj hlt => hg.block j hlt (fun e => (hk.off j e.symm).2.2 (bytesV_ne he) hj)), ⟨M, m1.kept hg (fun e => (hk.off gb e.symm).2.1 rfl), m2⟩, ?_, fun j hj => ?_, hk.new, fun he j hj => ⟨(hk.vnw he j hj).1, Nat.lt_of_lt_of_le (hk.vnw he j hj).2 hg.size⟩, grown_new hk.grow hg (fun j e => (hk.own.lt j e).1)⟩, k.tk.grown hg (fun e => k.ne.2.2 gt e.symm rfl), k.ne.1, k.ne.2.1, fun j hj => ?_⟩
  · rw [bytesV_app, List.length_append, List.length_singleton]
    exact ho
  · rcases hat with e | e
    · exact hk.off j (by rw [← e]; exact hj)
    · rw [e] at hj
      cases hj
      exact ⟨fun e => by have := hk.row.lt; omega, fun e => by have := m1.lt; omega, fun he e => by have := (hk.vnw he _ e).2; omega⟩
  · rcases hat with e | e
    · exact k.ne.2.2 j (by rw [← e]; exact hj)
    · rw [e] at hj
      cases hj
      exact fun e => by have := k.tk.lt; omega
end
end Go.Proofs.Ytibofgokdjbomaa
