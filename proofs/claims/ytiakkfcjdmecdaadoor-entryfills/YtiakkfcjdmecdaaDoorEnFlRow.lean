/-
  Rows of files (of the call's own) over this program: append, what they read as; a slice's middle; a slice of one slice.
-/
import Derived.Test.YtiakkfcjdmecdaaDoorEnSlice
import Derived.Test.YtiakkfcjdmecdaaDoorEnFl
import Derived.Test.YtiakkfcjdmecdaaDoorEnLaws
import Derived.Test.YtiakkfcjdmecdaaDoorEntryFillsLaw
import Derived.Test.YtiakkfcjdmecdaaDoorMOct
namespace Go.Proofs.YtiakkfcjdmecdaaDoor
set_option maxRecDepth 1000000
open Go.RowKit

def fcs (P : List (Fl × Value)) : List Value := P.flatMap fun p => flC p.1 p.2
theorem fcs_len : ∀ l : List (Fl × Value), (fcs l).length = 6 * l.length
  | [] => rfl
  | t :: l => by
    have := fcs_len l
    simp only [fcs, List.flatMap_cons, List.length_append, List.length_cons] at this ⊢
    rw [this, show (flC t.1 t.2).length = 6 from rfl]
    omega
theorem fcs_at : ∀ (l : List (Fl × Value)) (j : Nat) t, l[j]? = some t → ∀ (i : Nat) u, (flC t.1 t.2)[i]? = some u → (fcs l)[j * 6 + i]? = some u
  | [], j, t, h, _, _, _ => by simp at h
  | t0 :: l, 0, t, h, i, u, hu => by
    simp at h
    subst h
    simp only [fcs, List.flatMap_cons, Nat.zero_mul, Nat.zero_add]
    rw [List.getElem?_append_left (List.getElem?_eq_some_iff.1 hu).1]
    exact hu
  | t0 :: l, j + 1, t, h, i, u, hu => by
    simp only [fcs, List.flatMap_cons]
    rw [List.getElem?_append_right (by rw [show (flC t0.1 t0.2).length = 6 from rfl]; omega), show (flC t0.1 t0.2).length = 6 from rfl, show (j + 1) * 6 + i - 6 = j * 6 + i by omega]
    exact fcs_at l j t (by simpa using h) i u hu
theorem fcs_snoc (P : List (Fl × Value)) (f : Fl) (u : Value) : fcs (P ++ [(f, u)]) = fcs P ++ flC f u := by simp [fcs]
theorem flC_one (f : Fl) (A : Option Addr) (n c : Nat) : ∀ x ∈ flC f (.slice A n c), x.oneCell' = true := by
  intro x hx
  simp [flC] at hx
  rcases hx with rfl | rfl | rfl | rfl | rfl | rfl <;> rfl
theorem infoFl : ∃ i z, Tryd.prog.info? 52 = some i ∧ i.zero = some z ∧ z.cells.size = 6 ∧ i.size = 6 ∧ i.bytes = 80 := by
  have h : (Tryd.prog.info? 52).map (fun i => (i.zero.map (fun z => z.cells.size), i.size, i.bytes)) = some (some 6, 6, 80) := by kernel_rfl
  obtain ⟨i, hi, he⟩ := Option.map_eq_some_iff.1 h
  simp only [Prod.mk.injEq, Option.map_eq_some_iff] at he
  obtain ⟨⟨z, hz, h1⟩, h2, h3⟩ := he
  exact ⟨i, z, hi, hz, h1, h2, h3⟩
def flVal (f : Fl) (u : Value) : Value := .agg (flC f u).toArray
section
variable {ops : Array Oper} {rest : List Oper} {o : Oper} {a : Act} {w : World} {Q : Exit → Act → World → Prop}
theorem wpList_buildFl (hg : o.guard = none) (x : Operand) (ho : o.op = .buildSlice 22 1 #[(0, x)]) (f : Fl) (u : Value) (hx : a.eval x = flVal f u)
    (h : wpList Tryd.prog ops Q rest (a.put o.dst (.slice (some ⟨w.heap.size, 0, none⟩) 1 1)) (w.alloc (.cells (flC f u).toArray 52))) : wpList Tryd.prog ops Q (o :: rest) a w := by
  obtain ⟨i, z, hi, hz, h1, h2, h3⟩ := infoFl
  refine wpList_buildSlice hg 22 52 1 #[(0, x)] ho (flC f u).toArray i z Tryd.underlying22 hi hz (by rw [h2]; decide) (by rw [h2]; decide) ?_ h
  rw [h2]
  have hsz : ((Array.range (1 * 6)).map (z.cells[· % z.cells.size]!)).size = 6 := by simp
  generalize ((Array.range (1 * 6)).map (z.cells[· % z.cells.size]!)) = cs at *
  simp only [List.map_toArray, List.map_cons, List.map_nil, hx, Instr.fill]
  have hc : (flVal f u).cells = (flC f u).toArray := rfl
  rw [hc, if_neg (by simp [flC, hsz])]
  have := fold_set (flC f u) 0 cs (by rw [hsz, show (flC f u).length = 6 from rfl]; decide)
  simp only [Nat.zero_mul]
  rw [← Array.foldl_toList, Array.toList_zipIdx, show (flC f u).toArray.toList = flC f u from rfl]
  refine congrArg some (this.trans ?_)
  have e : cs.toList.drop (0 + (flC f u).length) = [] := List.drop_eq_nil_of_le (by simp [hsz, flC])
  rw [e]
  simp
theorem wpList_appFl (hgd : o.guard = none) (s x : Operand) (ho : o.op = .call { callee := .builtin .append, args := #[s, x], argTypes := #[22, 22] })
    (base : Nat) (v : Value) (n : Nat) (xs : List Value) (hs : a.eval s = v) (hown : w.ownsRow base 52 6 v n xs) (g : Nat) (f : Fl) (A : Option Addr) (m c : Nat) (hx : a.eval x = .slice (some ⟨g, 0, none⟩) 1 1) (hr : Row w g 52 (flC f (.slice A m c)))
    (hn : n ≤ 1000000) (hbase : base ≤ w.heap.size)
    (h : ∀ g' c' w', w'.ownsRow base 52 6 (.slice (some ⟨g', 0, none⟩) (n + 1) c') (n + 1) (xs ++ flC f (.slice A m c)) → w.grownBy w' v.ownBlock → (some g' = v.ownBlock ∨ g' = w.heap.size) → wpList Tryd.prog ops Q rest (a.put o.dst (.slice (some ⟨g', 0, none⟩) (n + 1) c')) w') : wpList Tryd.prog ops Q (o :: rest) a w := by
  obtain ⟨i, z, hi, hz, hz1, h2, h3⟩ := infoFl
  obtain ⟨v', w', hrun, ho2, hgr, _, hob⟩ := run_append_own_at (P := Tryd.prog) w base 22 o.type 52 i z 6 80 Tryd.underlying22 hi hz h2 h3 hz1 (by decide) v n xs hown ⟨g, 0, none⟩ 1 1 (flC f (.slice A m c)) (by rfl)
    (fun j u hu => by
      have := hr.cell hu
      have e : (⟨g, 0, none⟩ : Addr).add j = ⟨g, j, none⟩ := by unfold Addr.add; split <;> simp_all
      rw [e]
      exact this) (flC_one f A m c) (by unfold maxLen; omega) (by omega) hbase
  refine wpList_plain hgd fun _ hK => ?_
  unfold Oper.wp execOp
  simp only [ho, resolve, invoke, builtin, Sem.run_bind, Sem.run_pure, Result.andThen_ok, List.map_toArray, List.map_cons, List.map_nil, hs, hx, hrun]
  refine hK _ _ ?_
  have ho3 := ho2
  rcases ho3.2 with ⟨_, e⟩ | ⟨g', c', cur, rfl, _⟩
  · omega
  · exact h g' c' w' ho2 hgr (by
      rcases hob with e | e
      · exact .inl (by rw [← e]; rfl)
      · exact .inr (by simpa [Value.ownBlock] using e))
end
/-- A row of files, gathered since w0: what each one's data are lies elsewhere. -/
structure Fld (w0 W : World) (s : Value) (P : List (Fl × Value)) : Prop where
  own : W.ownsRow w0.heap.size 52 6 s P.length (fcs P)
  data : ∀ p ∈ P, Rd W p.2 (bytesV p.1.data) ∧ ∀ b, p.2.ownBlock = some b → b < W.heap.size ∧ s.ownBlock ≠ some b
  grown : w0.grownBy W none
theorem Fld.grow {w0 W W' : World} {s : Value} {P : List (Fl × Value)} (h : Fld w0 W s P) (hg : W.grownBy W' none) : Fld w0 W' s P :=
  ⟨own_grown7 h.own hg, fun p hp => ⟨(h.data p hp).1.grown0 hg, fun b hb => ⟨Nat.lt_of_lt_of_le ((h.data p hp).2 b hb).1 hg.size, ((h.data p hp).2 b hb).2⟩⟩, h.grown.trans hg⟩
theorem Fld.next {w0 W W' : World} {s s' u : Value} {P : List (Fl × Value)} {f : Fl} (h : Fld w0 W s P) (hu : Rd W u (bytesV f.data)) (hb : ∀ b, u.ownBlock = some b → b < W.heap.size ∧ s.ownBlock ≠ some b)
    (ho : W'.ownsRow w0.heap.size 52 6 s' (P.length + 1) (fcs P ++ flC f u)) (hg : W.grownBy W' s.ownBlock) (hs : s'.ownBlock = s.ownBlock ∨ s'.ownBlock = some W.heap.size) : Fld w0 W' s' (P ++ [(f, u)]) := by
  refine ⟨by rw [fcs_snoc, List.length_append]; exact ho, fun p hp => ?_, grown_new h.grown hg (fun b e => (h.own.lt b e).1)⟩
  have hd : Rd W p.2 (bytesV p.1.data) ∧ ∀ b, p.2.ownBlock = some b → b < W.heap.size ∧ s.ownBlock ≠ some b := by
    rcases List.mem_append.1 hp with hp | hp
    · exact h.data p hp
    · obtain rfl : p = (f, u) := by simpa using hp
      exact ⟨hu, hb⟩
  refine ⟨hd.1.grown hg (fun b hb e => (hd.2 b hb).2 e.symm), fun b hb => ⟨Nat.lt_of_lt_of_le (hd.2 b hb).1 hg.size, ?_⟩⟩
  rcases hs with hs | hs
  · rw [hs]; exact (hd.2 b hb).2
  · rw [hs]; intro e; injection e with e; have := (hd.2 b hb).1; omega
theorem Fld.rd {w0 W : World} {s : Value} {P : List (Fl × Value)} (h : Fld w0 W s P) : RdF W s (P.map Prod.fst) := by
  have hc := @World.ownsRow.cells _ _ _ _ _ _ _ h.own
  rcases h.own.2 with ⟨rfl, e0⟩ | ⟨g, cap, cur, rfl, _, hg, hnc, hcm, hs, ht⟩
  · have : P = [] := List.eq_nil_of_length_eq_zero (by omega)
    subst this
    exact RdF.nil _
  · refine ⟨_, cap, by rw [List.length_map], by rw [List.length_map]; exact hnc, hcm, fun _ => ⟨_, rfl, fun j t hj => ?_⟩⟩
    rw [List.getElem?_map] at hj
    obtain ⟨p, hp, rfl⟩ := Option.map_eq_some_iff.1 hj
    refine ⟨p.2, (h.data p (List.mem_of_getElem? hp)).1, fun i x hx => hc (g := g) rfl _ _ (fcs_at P j p hp i x hx)⟩
section
variable {o : Oper} {a : Act} {w : World}
theorem st_cut {x y z : Operand} {l : List UInt8} {p q : Int} (i j : Nat) (h : o.op = .slice 45 x (some y) (some z) none) (hx : IsB l (a.eval x) w) (hy : Is (.int .i64 p) (a.eval y) w) (hz : Is (.int .i64 q) (a.eval z) w) (e1 : p = (i : Int)) (e2 : q = (j : Int)) (hij : i ≤ j) (hj : j ≤ l.length) : Runs (IsB ((l.drop i).take (j - i))) o a w := by
  obtain ⟨A, c, hA⟩ := Rd.form hx
  have hx' : Rd w (a.eval x) (bytesV l) := hx
  rw [hA, bytesV_len] at hx'
  rw [bytesV_len] at hA
  have hy' : a.eval y = .int .i64 p := hy
  have hz' : a.eval z = .int .i64 q := hz
  subst e1 e2
  obtain ⟨_, hlc, hcm⟩ := hx'.len
  have h1 : (i : Int) ≤ (j : Int) := by omega
  have h2 : (j : Int) ≤ (c : Int) := by omega
  have ht := (hx'.drop (n := i) (by omega)).take (n := j - i) (d := c - i) (by omega) (by omega) (Nat.le_refl _)
  rw [show ((bytesV l).drop i).take (j - i) = bytesV ((l.drop i).take (j - i)) by simp [bytesV, List.map_drop, List.map_take]] at ht
  by_cases hc : c = i
  · have hji : j = i := by omega
    have he : (l.drop i).take (j - i) = [] := by rw [hji, Nat.sub_self, List.take_zero]
    rw [he]
    cases A with
    | some ad =>
      refine ⟨.slice (some ad) 0 0, ?_, Rd.empty _ _ _ (Nat.zero_le _)⟩
      simp only [execOp, h, hA, hy', hz', Option.map_some, Option.map_none]
      simp [go_sem, hc, hji]
    | none =>
      refine ⟨.slice none 0 0, ?_, Rd.empty _ _ _ (Nat.zero_le _)⟩
      simp only [execOp, h, hA, hy', hz', Option.map_some, Option.map_none]
      simp [go_sem, hc, hji]
  · cases A with
    | some ad =>
      refine ⟨_, ?_, ht⟩
      simp only [execOp, h, hA, hy', hz', Option.map_some, Option.map_none]
      simp [go_sem, h1, h2, hc]
    | none =>
      refine ⟨_, ?_, ht⟩
      simp only [execOp, h, hA, hy', hz', Option.map_some, Option.map_none]
      simp [go_sem, h1, h2]
theorem ex_build1S {x0 : Operand} {u0 : Value} {A0 : Option Addr} {n0 c0 : Nat} (h : o.op = .buildSlice 93 1 #[(0, x0)]) (h0 : a.eval x0 = u0) (e0 : u0 = .slice A0 n0 c0) :
    (execOp a.eval o).run Tryd.prog w = .ok (.value (.slice (some ⟨w.heap.size, 0, none⟩) 1 1)) (w.alloc (.cells #[u0] 45)) := by
  subst e0
  simp only [execOp, h, h0, List.map_toArray, List.map_cons, List.map_nil]
  go_simp
end
section
variable {P : Program} {ops : Array Oper} {Q : Exit → Act → World → Prop} {n : Nat} {eff : List (Nat × Nat)} {w0 : World} {a0 : Act} {tail : List Oper}
theorem Walk.makeF {env : List (Value → World → Prop)} {k : Nat} {o : Oper} {rest : List Oper} {G : Value → World → Prop} (hl : StaysBut eff k G) (ho : ops[k]? = some o) (hdst : o.dst.isSome = true)
    (hs : ∀ a w, Mid2 ops n eff w0 a0 a w → Ahead eff k w0 w → Deps2 ops env.reverse o a w → Wanted ops o a ∧ ∃ v w', (execOp a.eval o).run P w = .ok (.value v) w' ∧ w.grownBy w' (rowAt eff k) ∧ G v w')
    (hc : Walk P ops Q n eff w0 a0 tail (k + 1) rest (G :: env)) : Walk P ops Q n eff w0 a0 tail k (o :: rest) env := by
  refine ⟨G, hl, fun a w hm ha hd => ?_, hc⟩
  obtain ⟨hw, v, w', hr, hg, hG⟩ := hs a w hm ha hd
  unfold wpOp
  rw [ho]
  simp only
  rw [if_pos (show Region.wanted o (yielded ops a.tmps) = true from hw)]
  refine .inl ?_
  unfold Oper.wp
  rw [hr, Oper.upon_value]
  exact ⟨v, rfl, hg, hG, fun h => by rw [h] at hdst; cases hdst⟩
end
/-- A file out of an entry, its data at the head of d. -/
def fileE (e : En) (d : List UInt8) : Fl := ⟨e.path, e.kind, e.mode, e.time, d.take e.size.toNat, e.to⟩
theorem sizes_low (l : List En) (h : ∀ e ∈ l, 0 ≤ e.size) : 0 ≤ sizesE l := by
  induction l with
  | nil => simp [sizesE]
  | cons e l ih =>
    have h1 := h e List.mem_cons_self
    have h2 := ih (fun x hx => h x (List.mem_cons_of_mem _ hx))
    simp only [sizesE]; omega
theorem fillF_next : ∀ (l : List En) (d : List UInt8) (k : Nat), k < l.length → (∀ e ∈ l, 0 ≤ e.size) → fillF (l.take (k + 1)) d = fillF (l.take k) d ++ [fileE (l.getD k default) (d.drop (sizesE (l.take k)).toNat)]
  | [], d, k, h, _ => by simp at h
  | e :: l, d, 0, _, _ => by simp [fillF, fileE, sizesE]
  | e :: l, d, k + 1, h, hs => by
    have ih := fillF_next l (d.drop e.size.toNat) k (by simpa using h) (fun x hx => hs x (List.mem_cons_of_mem _ hx))
    have h1 := hs e List.mem_cons_self
    have h2 := sizes_low (l.take k) (fun x hx => hs x (List.mem_cons_of_mem _ (List.mem_of_mem_take hx)))
    rw [List.take_succ_cons, List.take_succ_cons, fillF, fillF, ih, List.cons_append, List.drop_drop]
    simp only [sizesE]
    rw [show (e.size + sizesE (l.take k)).toNat = e.size.toNat + (sizesE (l.take k)).toNat by omega]
    rfl
end Go.Proofs.YtiakkfcjdmecdaaDoor
