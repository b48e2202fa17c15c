/-
  The law CoderPuts: a writer of the program's and one of the document's, side by side in memory.
-/
import Derived.Test.YtohndlfekecfoaaRcoEnd
import Derived.Test.YtohndlfekecfoaaCodTri
import Derived.Test.YtohndlfekecfoaaCodNil
namespace Go.Proofs.Ytohndlfekecfoaa
set_option maxRecDepth 1000000
open Go.RowKit

def numsV (l : List Nat) : List Value := l.map fun (c : Nat) => Value.int .i64 (c : Int)
theorem numsV_len (l : List Nat) : (numsV l).length = l.length := by simp [numsV]
theorem numsV_at (l : List Nat) (j : Nat) (h : j < l.length) : (numsV l)[j]? = some (.int .i64 ((l.getD j 0 : Nat) : Int)) := by simp [numsV, List.getElem?_eq_getElem h]
theorem numsV_set (l : List Nat) (j c : Nat) : (numsV l).set j (.int .i64 (c : Int)) = numsV (l.set j c) := by simp [numsV, List.map_set]
theorem numsV_u8 (l : List Nat) (z : Int) : Value.int .u8 z ∉ numsV l := by simp [numsV]
theorem chV_u8 (l : List Nat) (z : Int) : Value.int .u8 z ∉ chV l := by simp [chV]
theorem W3s.other {w W W' : World} {g gc gt b : Nat} {t1 t2 : TypeId} {vb : Option Nat} {X : Tri} (h : W3s w W g gc gt t1 t2 vb X) (hg : W.grownBy W' (some b)) (hb : b ≠ g ∧ b ≠ gc ∧ b ≠ gt ∧ vb ≠ some b ∧ w.heap.size ≤ b) : W3s w W' g gc gt t1 t2 vb X := by
  obtain ⟨b1, b2, b3, b4, b5⟩ := hb
  exact ⟨h.wt.grown hg (fun e => by cases e; exact b1 rfl) (fun k hk e => b4 (by rw [hk, e])), h.rc.grown hg (fun e => by cases e; exact b2 rfl), h.rt.grown hg (fun e => by cases e; exact b3 rfl), h.ne, h.new, grown_own h.grow hg b5⟩

/-- The program's writer and chances, the document's writer (a value in a box) and chances. -/
structure PS (w W : World) (g gc gt : Nat) (t1 t2 : TypeId) (vb : Option Nat) (X : Tri) (gx ga gh : Nat) (xv : Value) (T : Cst) (c t : List Nat) : Prop where
  p : W3s w W g gc gt t1 t2 vb X
  rx : Row W gx 30 [xv, .int .i64 (T.low : Int), .int .i64 (T.width : Int)]
  rd : Rd W xv (bytesV T.out)
  ra : Row W ga 32 (numsV c)
  rh : Row W gh 33 (numsV t)
  ne : gx ≠ ga ∧ gx ≠ gh ∧ ga ≠ gh
  nx : gx ≠ g ∧ gx ≠ gc ∧ gx ≠ gt ∧ vb ≠ some gx ∧ w.heap.size ≤ gx
  na : ga ≠ g ∧ ga ≠ gc ∧ ga ≠ gt ∧ vb ≠ some ga ∧ w.heap.size ≤ ga
  nh : gh ≠ g ∧ gh ≠ gc ∧ gh ≠ gt ∧ vb ≠ some gh ∧ w.heap.size ≤ gh
  xn : T.out ≠ [] → ∀ b, xv.ownBlock = some b → vb ≠ some b
section
variable {w W W' : World} {g gc gt gx ga gh : Nat} {t1 t2 : TypeId} {vb vb' : Option Nat} {X X' : Tri} {xv : Value} {T : Cst} {c t : List Nat}
theorem PS.grown0 (h : PS w W g gc gt t1 t2 vb X gx ga gh xv T c t) (hg : W.grownBy W' none) : PS w W' g gc gt t1 t2 vb X gx ga gh xv T c t :=
  ⟨h.p.grown0 hg, h.rx.grown0 hg, h.rd.grown0 hg, h.ra.grown0 hg, h.rh.grown0 hg, h.ne, h.nx, h.na, h.nh, h.xn⟩
theorem Rd.lt {w : World} {v : Value} {l : List UInt8} (h : Rd w v (bytesV l)) (hl : bytesV l ≠ []) {b : Nat} (hb : v.ownBlock = some b) : b < w.heap.size := by
  obtain ⟨A, c, rfl⟩ := h.form
  obtain ⟨ad, e, hc⟩ := h.cells hl
  subst e
  have := World.block_lt_of_cell? w _ (hc 0 _ (List.getElem?_eq_getElem (List.length_pos_iff.2 hl)))
  rw [add_block] at this
  cases hb
  exact this
/-- The program's step. -/
theorem PS.prog {S : List Nat} (h : PS w W g gc gt t1 t2 vb X gx ga gh xv T c t) (hp : W3s w W' g gc gt t1 t2 vb' X') (hn : Wn S W vb W' vb') (hS : ∀ b ∈ S, b = g ∨ b = gc ∨ b = gt) : PS w W' g gc gt t1 t2 vb' X' gx ga gh xv T c t := by
  have hrow : ∀ b, vb' = some b → vb = some b ∨ W.heap.size ≤ b := fun b hb => by
    rcases hn.row with e | ⟨k, e, hk⟩
    · rw [e] at hb; exact .inl hb
    · rw [e] at hb; cases hb; exact .inr hk
  have keep : ∀ {b : Nat} {t : TypeId} {cs : List Value}, Row W b t cs → (b ≠ g ∧ b ≠ gc ∧ b ≠ gt ∧ vb ≠ some b ∧ w.heap.size ≤ b) → Row W' b t cs ∧ (b ≠ g ∧ b ≠ gc ∧ b ≠ gt ∧ vb' ≠ some b ∧ w.heap.size ≤ b) := fun {b t cs} hr ⟨b1, b2, b3, b4, b5⟩ => by
    refine ⟨hr.wn hn (fun hm => ?_) (fun e => b4 e.symm), b1, b2, b3, fun e => ?_, b5⟩
    · rcases hS b hm with e | e | e
      · exact b1 e
      · exact b2 e
      · exact b3 e
    · rcases hrow b e with e2 | e2
      · exact b4 e2
      · have := hr.lt; omega
  obtain ⟨v, hrow1, hrow2⟩ := h.p.wt
  have k1 := keep h.rx h.nx
  have k2 := keep h.ra h.na
  have k3 := keep h.rh h.nh
  have nw : bytesV T.out ≠ [] → ∀ b, xv.ownBlock = some b → b ∉ S := fun hl b hb hm => by
    rcases hS b hm with e | e | e
    · subst e
      refine h.rd.notIn hrow1 ?_ hl hb
      obtain ⟨ho, _⟩ := hrow2
      intro z hz
      obtain ⟨A, cc, e⟩ := own_form ho
      rw [e] at hz
      simp at hz
    · subst e; exact h.rd.notIn h.p.rc (chV_u8 _) hl hb
    · subst e; exact h.rd.notIn h.p.rt (chV_u8 _) hl hb
  refine ⟨hp, k1.1, h.rd.keepE (fun hl b hb hlt => hn.block b hlt (nw hl b hb) (fun e => h.xn (bytesV_ne hl) b hb e.symm)), k2.1, k3.1, h.ne, k1.2, k2.2, k3.2, fun hl b hb e => ?_⟩
  have hl' : bytesV T.out ≠ [] := fun e => hl (by simpa [bytesV] using e)
  rcases hrow b e with e2 | e2
  · exact h.xn hl b hb e2
  · have := h.rd.lt hl' hb; omega
/-- The document's bytes lie in no block of the program's writer. -/
theorem PS.notT (h : PS w W g gc gt t1 t2 vb X gx ga gh xv T c t) : bytesV T.out ≠ [] → ∀ b, xv.ownBlock = some b → b ≠ g ∧ vb ≠ some b := fun hl b hb => by
  obtain ⟨v, hrow1, hrow2⟩ := h.p.wt
  refine ⟨fun e => ?_, h.xn (bytesV_ne hl) b hb⟩
  subst e
  refine h.rd.notIn hrow1 ?_ hl hb
  obtain ⟨ho, _⟩ := hrow2
  intro z hz
  obtain ⟨A, cc, e⟩ := own_form ho
  rw [e] at hz
  simp at hz
/-- The document's step: a value laid into the box. -/
theorem PS.ref {W2 : World} {T' : Cst} {v' : Value} (h : PS w W g gc gt t1 t2 vb X gx ga gh xv T c t) (hg : W.grownBy W2 none) (hr : Rd W2 v' (bytesV T'.out)) (hs : T'.out ≠ [] → ∀ k, v'.ownBlock = some k → (T.out ≠ [] ∧ xv.ownBlock = some k) ∨ W.heap.size ≤ k)
    (hR : Row W' gx 30 [v', .int .i64 (T'.low : Int), .int .i64 (T'.width : Int)]) (hg2 : W2.grownBy W' (some gx)) : PS w W' g gc gt t1 t2 vb X gx ga gh v' T' c t := by
  have h2 := h.grown0 hg
  refine ⟨h2.p.other hg2 h.nx, hR, hr.keepT h2.rx (fun z hz => ?_) hg2, h2.ra.grown hg2 (fun e => by cases e; exact h.ne.1 rfl), h2.rh.grown hg2 (fun e => by cases e; exact h.ne.2.1 rfl), h.ne, h.nx, h.na, h.nh, fun hl b hb e => ?_⟩
  · obtain ⟨A, cc, rfl⟩ := h.rd.form
    simp at hz
  · rcases hs hl b hb with ⟨he, e2⟩ | e2
    · exact h.xn he b e2 e
    · have := h.p.wt.row_lt b e
      omega
theorem PS.setA (h : PS w W g gc gt t1 t2 vb X gx ga gh xv T c t) (j n : Nat) : PS w (W.setCell ⟨ga, j, none⟩ (.int .i64 (n : Int))) g gc gt t1 t2 vb X gx ga gh xv T (c.set j n) t := by
  have hg := grown_set W ga j (.int .i64 (n : Int))
  have hr := h.ra.set j (.int .i64 (n : Int))
  rw [numsV_set] at hr
  exact ⟨h.p.other hg h.na, h.rx.grown hg (fun e => by cases e; exact h.ne.1 rfl), h.rd.keepT h.ra (numsV_u8 _) hg, hr, h.rh.grown hg (fun e => by cases e; exact h.ne.2.2 rfl), h.ne, h.nx, h.na, h.nh, h.xn⟩
theorem PS.setH (h : PS w W g gc gt t1 t2 vb X gx ga gh xv T c t) (j n : Nat) : PS w (W.setCell ⟨gh, j, none⟩ (.int .i64 (n : Int))) g gc gt t1 t2 vb X gx ga gh xv T c (t.set j n) := by
  have hg := grown_set W gh j (.int .i64 (n : Int))
  have hr := h.rh.set j (.int .i64 (n : Int))
  rw [numsV_set] at hr
  exact ⟨h.p.other hg h.nh, h.rx.grown hg (fun e => by cases e; exact h.ne.2.1 rfl), h.rd.keepT h.rh (numsV_u8 _) hg, h.ra.grown hg (fun e => by cases e; exact h.ne.2.2 rfl), hr, h.ne, h.nx, h.na, h.nh, h.xn⟩
end
end Go.Proofs.Ytohndlfekecfoaa
