/-
  append of tokens that are given onto a row of the call's own.
-/
import Derived.Test.YtbpnkcjaekbcdaaTokRow
namespace Go.Proofs.Ytbpnkcjaekbcdaa
open Go.RowKit

theorem run_append_toks (w : World) (base : Nat) (ty : TypeId) (v : Value) (n : Nat) (xs : List Value) (hown : w.ownsRow base 38 3 v n xs) (u : Value) (l : List Tok) (hr : RdT w u l) (hn : n + l.length ≤ 1000000) (hbase : base ≤ w.heap.size) :
    ∃ v' w', (Builtin.append_ #[24, 24] ty #[v, u]).run Try.prog w = .ok v' w' ∧ w'.ownsRow base 38 3 v' (n + l.length) (xs ++ tokCs l) ∧ w.grownBy w' v.ownBlock := by
  obtain ⟨i, z, hi, hz, hz1, h2, h3⟩ := infoTok 38 (.inl rfl)
  obtain ⟨A, c, rfl, hlc, hcm, hcell⟩ := hr
  cases A with
  | none =>
    have hl : l = [] := by
      rcases l with _ | ⟨x, l⟩
      · rfl
      · obtain ⟨ad, h, _⟩ := hcell (by simp); cases h
    subst hl
    refine ⟨v, w, ?_, by simpa [tokCs] using hown, grown_refl w _⟩
    rcases hown.2 with ⟨rfl, rfl⟩ | ⟨g, cap, cur, rfl, _, _, hnc, _⟩
    · simp [Builtin.append_, run_underlying Try.underlying24, sizeOf, typeInfo, hi, Builtin.lenOf, Builtin.firstCells]
    · simp [Builtin.append_, run_underlying Try.underlying24, sizeOf, typeInfo, hi, Builtin.lenOf, Builtin.firstCells, hnc, storeCells]
  | some ad =>
    have hcells : ∀ j x, (tokCs l)[j]? = some x → w.cell? (ad.add j) = some x := by
      intro j x hx
      have hj : j < (tokCs l).length := (List.getElem?_eq_some_iff.1 hx).1
      rw [tokCs_len] at hj
      have hne : l ≠ [] := by rintro rfl; simp at hj
      obtain ⟨ad', h, hc⟩ := hcell hne
      injection h with h
      subst h
      have hq : j / 3 < l.length := by omega
      have ht := List.getElem?_eq_getElem hq
      obtain ⟨y, hy⟩ : ∃ y, (tokC l[j / 3])[j % 3]? = some y := by
        have hr : j % 3 < (tokC l[j / 3]).length := by show j % 3 < 3; omega
        exact ⟨_, List.getElem?_eq_getElem hr⟩
      have h1 := tokCs_at l (j / 3) _ ht (j % 3) y hy
      have h4 := hc (j / 3) _ ht (j % 3) y hy
      rw [show j / 3 * 3 + j % 3 = j by omega] at h1 h4
      rw [h1] at hx
      injection hx with hx
      subst hx
      exact h4
    have hone : ∀ x ∈ tokCs l, x.oneCell' = true := by
      intro x hx
      simp only [tokCs, List.mem_flatMap] at hx
      obtain ⟨t, _, ht⟩ := hx
      exact tokC_one t x ht
    obtain ⟨v', w', hrun, ho, hg, _, _⟩ := run_append_own_at (P := Try.prog) w base 24 ty 38 i z 3 24 Try.underlying24 hi hz h2 h3 hz1 (by omega) v n xs hown ad l.length c (tokCs l) (by rw [tokCs_len]; omega) hcells hone (by simp only [maxLen]; omega) (by omega) hbase
    exact ⟨v', w', hrun, ho, hg⟩
theorem wpList_appToks {ops : Array Oper} {rest : List Oper} {o : Oper} {a : Act} {w : World} {Q : Exit → Act → World → Prop} (hgd : o.guard = none) (s x : Operand) (ho : o.op = .call { callee := .builtin .append, args := #[s, x], argTypes := #[24, 24] })
    (base : Nat) (v : Value) (n : Nat) (xs : List Value) (hs : a.eval s = v) (hown : w.ownsRow base 38 3 v n xs) (u : Value) (l : List Tok) (hx : a.eval x = u) (hr : RdT w u l) (hn : n + l.length ≤ 1000000) (hbase : base ≤ w.heap.size)
    (h : ∀ v' w', w'.ownsRow base 38 3 v' (n + l.length) (xs ++ tokCs l) → w.grownBy w' v.ownBlock → wpList Try.prog ops Q rest (a.put o.dst v') w') : wpList Try.prog ops Q (o :: rest) a w := by
  obtain ⟨v', w', hrun, h2, h3⟩ := run_append_toks w base o.type v n xs hown u l hr hn hbase
  refine wpList_plain hgd fun _ hK => ?_
  unfold Oper.wp execOp
  simp only [ho, resolve, invoke, builtin, Sem.run_bind, Sem.run_pure, Result.andThen_ok, List.map_toArray, List.map_cons, List.map_nil, hs, hx, hrun]
  exact hK _ _ (h v' w' h2 h3)
end Go.Proofs.Ytbpnkcjaekbcdaa
