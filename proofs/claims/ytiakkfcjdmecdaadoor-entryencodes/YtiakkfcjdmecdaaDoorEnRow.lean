/-
  Rows of entries: append of one, one taken out whole, one made anew (after TokRow).
-/
import Derived.Test.YtiakkfcjdmecdaaDoorEnM
import Derived.Great.BuildSlice
import Derived.Maps.AppendAt
namespace Go.Proofs.YtiakkfcjdmecdaaDoor
set_option maxRecDepth 1000000
open Go.RowKit

def enV (e : En) : Value := .agg (enC e).toArray
def enCs (l : List En) : List Value := l.flatMap enC
theorem enCs_len : ∀ l : List En, (enCs l).length = 7 * l.length
  | [] => rfl
  | t :: l => by
    have := enCs_len l
    simp only [enCs, List.flatMap_cons, List.length_append, List.length_cons] at this ⊢
    rw [this, show (enC t).length = 7 from rfl]
    omega
theorem enCs_at : ∀ (l : List En) (j : Nat) t, l[j]? = some t → ∀ (i : Nat) u, (enC t)[i]? = some u → (enCs l)[j * 7 + i]? = some u
  | [], j, t, h, _, _, _ => by simp at h
  | t0 :: l, 0, t, h, i, u, hu => by
    simp at h
    subst h
    simp only [enCs, List.flatMap_cons, Nat.zero_mul, Nat.zero_add]
    rw [List.getElem?_append_left (List.getElem?_eq_some_iff.1 hu).1]
    exact hu
  | t0 :: l, j + 1, t, h, i, u, hu => by
    simp only [enCs, List.flatMap_cons]
    rw [List.getElem?_append_right (by rw [show (enC t0).length = 7 from rfl]; omega), show (enC t0).length = 7 from rfl, show (j + 1) * 7 + i - 7 = j * 7 + i by omega]
    exact enCs_at l j t (by simpa using h) i u hu
theorem enCs_app (a b : List En) : enCs (a ++ b) = enCs a ++ enCs b := by simp [enCs]
theorem enC_one (t : En) : ∀ x ∈ enC t, x.oneCell' = true := by
  intro x hx
  simp [enC] at hx
  rcases hx with rfl | rfl | rfl | rfl | rfl | rfl | rfl <;> rfl
theorem RdE.of_own {w : World} {base : Nat} {e : TypeId} {v : Value} {n : Nat} {l : List En} (hn : n = l.length) (h : w.ownsRow base e 7 v n (enCs l)) : RdE w v l := by
  subst hn
  have hc := @World.ownsRow.cells _ _ _ _ _ _ _ h
  rcases h.2 with ⟨rfl, e0⟩ | ⟨g, cap, cur, rfl, _, hg, hnc, hcm, hs, ht⟩
  · have : l = [] := List.eq_nil_of_length_eq_zero (by omega)
    subst this
    exact ⟨none, 0, rfl, Nat.le_refl _, Nat.zero_le _, fun h => absurd rfl h⟩
  · exact ⟨_, cap, rfl, hnc, hcm, fun _ => ⟨_, rfl, fun j t hj i u hu => hc (g := g) rfl _ _ (enCs_at l j t hj i u hu)⟩⟩

theorem infoEn (ty : TypeId) (h : ty = 38 ∨ ty = 66) : ∃ i z, Tryd.prog.info? ty = some i ∧ i.zero = some z ∧ z.cells.size = 7 ∧ i.size = 7 ∧ i.bytes = 72 := by
  have h : (Tryd.prog.info? ty).map (fun i => (i.zero.map (fun z => z.cells.size), i.size, i.bytes)) = some (some 7, 7, 72) := by rcases h with rfl | rfl <;> kernel_rfl
  obtain ⟨i, hi, he⟩ := Option.map_eq_some_iff.1 h
  simp only [Prod.mk.injEq, Option.map_eq_some_iff] at he
  obtain ⟨⟨z, hz, h1⟩, h2, h3⟩ := he
  exact ⟨i, z, hi, hz, h1, h2, h3⟩

theorem fold_set : ∀ (l : List Value) (k : Nat) (cs : Array Value), k + l.length ≤ cs.size →
    (l.zipIdx k).foldl (fun (cs : Array Value) (x : Value × Nat) => cs.setIfInBounds (0 + x.2) x.1) cs = (cs.toList.take k ++ l ++ cs.toList.drop (k + l.length)).toArray
  | [], k, cs, h => by simp
  | x :: l, k, cs, h => by
    simp only [List.length_cons] at h
    rw [List.zipIdx_cons, List.foldl_cons, fold_set l (k + 1) _ (by simp; omega)]
    congr 1
    apply List.ext_getElem?
    intro i
    simp only [Nat.zero_add, Array.toList_setIfInBounds, List.getElem?_append, List.length_append, List.length_take, List.length_set, List.getElem?_take, List.getElem?_set, List.getElem?_drop, List.length_cons, Array.length_toList]
    rcases Nat.lt_trichotomy i k with hi | hi | hi
    · simp [show i < k + 1 by omega, show i < cs.size by omega, show ¬ k = i by omega, hi, show i < k + 1 + l.length by omega, show i < k + (l.length + 1) by omega, show min (k + 1) cs.size = k + 1 by omega, show min k cs.size = k by omega]
    · subst hi
      simp [show i < cs.size by omega, show min (i + 1) cs.size = i + 1 by omega, show min i cs.size = i by omega]
      omega
    · simp only [show min (k + 1) cs.size = k + 1 by omega, show min k cs.size = k by omega]
      by_cases h2 : i < k + 1 + l.length
      · have e : i - k = (i - (k + 1)) + 1 := by omega
        simp [h2, show i < k + (l.length + 1) by omega, show ¬ i < k + 1 by omega, show ¬ i < k by omega, e]
      · simp [h2, show ¬ i < k + (l.length + 1) by omega]
        rw [if_neg (by omega)]
        congr 1
        omega

section
variable {ops : Array Oper} {rest : List Oper} {o : Oper} {a : Act} {w : World} {Q : Exit → Act → World → Prop}
/-- A token that lies anywhere, taken out whole. -/
theorem run_loadEn (ty : TypeId) (hty : ty = 38 ∨ ty = 66) (w : World) (ad : Addr) (t : En) (hc : ∀ i u, (enC t)[i]? = some u → w.cell? (ad.add i) = some u) :
    (Instr.loadAt ty (.pointer (some ad))).run Tryd.prog w = .ok (enV t) w := by
  have hl : (loadCells ad 7).run Tryd.prog w = .ok (enC t).toArray w := run_loadCells_list (P := Tryd.prog) w ad (enC t) (fun j v hv => hc j v hv)
  have hu : ∃ fs, Tryd.prog.underlying ty = some (.struct fs) := by rcases hty with rfl | rfl <;> first | exact ⟨_, Tryd.underlying38⟩ | exact ⟨_, Tryd.underlying66⟩
  obtain ⟨fs, hu⟩ := hu
  obtain ⟨i, z, hi, _, _, hs, _⟩ := infoEn ty hty
  simp only [Instr.loadAt, Instr.sureAddr, Sem.run_bind, Sem.run_pure, Result.andThen]
  simp [loadVar, isAgg, run_underlying hu, sizeOf, typeInfo, hi, hs, hl, enV, enC]
theorem wpList_loadEn (hgd : o.guard = none) (x : Operand) (ty : TypeId) (ho : o.op = .load ty x) (hty : ty = 38 ∨ ty = 66) (ad : Addr) (t : En) (hv : a.eval x = .pointer (some ad))
    (hc : ∀ i u, (enC t)[i]? = some u → w.cell? (ad.add i) = some u) (h : wpList Tryd.prog ops Q rest (a.put o.dst (enV t)) w) : wpList Tryd.prog ops Q (o :: rest) a w :=
  wpList_plain hgd fun _ hK => by
    have hrun := run_loadEn ty hty w ad t hc
    unfold Oper.wp execOp
    simp only [ho, hv, Sem.run_bind, hrun, Result.andThen_ok, Sem.run_pure]
    exact hK _ _ h
/-- A slice of one token, made anew. -/
theorem wpList_buildEn (hg : o.guard = none) (x : Operand) (ty sl : TypeId) (hty : (ty = 38 ∧ sl = 25) ∨ (ty = 66 ∧ sl = 29)) (ho : o.op = .buildSlice sl 1 #[(0, x)]) (t : En) (hx : a.eval x = enV t)
    (h : wpList Tryd.prog ops Q rest (a.put o.dst (.slice (some ⟨w.heap.size, 0, none⟩) 1 1)) (w.alloc (.cells (enC t).toArray ty))) : wpList Tryd.prog ops Q (o :: rest) a w := by
  obtain ⟨i, z, hi, hz, h1, h2, h3⟩ := infoEn ty (by rcases hty with h | h; exact .inl h.1; exact .inr h.1)
  have hu : Tryd.prog.underlying sl = some (.slice ty) := by rcases hty with ⟨rfl, rfl⟩ | ⟨rfl, rfl⟩; exact Tryd.underlying25; exact Tryd.underlying29
  refine wpList_buildSlice hg sl ty 1 #[(0, x)] ho (enC t).toArray i z hu hi hz (by rw [h2]; decide) (by rw [h2]; decide) ?_ h
  rw [h2]
  have hsz : ((Array.range (1 * 7)).map (z.cells[· % z.cells.size]!)).size = 7 := by simp
  generalize ((Array.range (1 * 7)).map (z.cells[· % z.cells.size]!)) = cs at *
  simp only [List.map_toArray, List.map_cons, List.map_nil, hx, Instr.fill]
  have hc : (enV t).cells = (enC t).toArray := rfl
  rw [hc, if_neg (by simp [enC, hsz])]
  have := fold_set (enC t) 0 cs (by rw [hsz, show (enC t).length = 7 from rfl]; decide)
  simp only [Nat.zero_mul]
  rw [← Array.foldl_toList, Array.toList_zipIdx, show (enC t).toArray.toList = enC t from rfl]
  refine congrArg some (this.trans ?_)
  have e : cs.toList.drop (0 + (enC t).length) = [] := List.drop_eq_nil_of_le (by simp [hsz, enC])
  rw [e]
  simp
/-- append of tokens that lie in a row onto a row of the call's own. -/
theorem wpList_appEn (hgd : o.guard = none) (s x : Operand) (ty sl : TypeId) (hty : (ty = 38 ∧ sl = 25) ∨ (ty = 66 ∧ sl = 29)) (ho : o.op = .call { callee := .builtin .append, args := #[s, x], argTypes := #[sl, sl] })
    (base : Nat) (v : Value) (n : Nat) (xs : List Value) (hs : a.eval s = v) (hown : w.ownsRow base ty 7 v n xs) (g : Nat) (t : En) (hx : a.eval x = .slice (some ⟨g, 0, none⟩) 1 1) (hr : Row w g ty (enC t))
    (hn : n ≤ 1000000) (hbase : base ≤ w.heap.size)
    (h : ∀ g' c w', w'.ownsRow base ty 7 (.slice (some ⟨g', 0, none⟩) (n + 1) c) (n + 1) (xs ++ enC t) → w.grownBy w' v.ownBlock → (some g' = v.ownBlock ∨ g' = w.heap.size) → wpList Tryd.prog ops Q rest (a.put o.dst (.slice (some ⟨g', 0, none⟩) (n + 1) c)) w') : wpList Tryd.prog ops Q (o :: rest) a w := by
  obtain ⟨i, z, hi, hz, hz1, h2, h3⟩ := infoEn ty (by rcases hty with h | h; exact .inl h.1; exact .inr h.1)
  have hu : Tryd.prog.underlying sl = some (.slice ty) := by rcases hty with ⟨rfl, rfl⟩ | ⟨rfl, rfl⟩; exact Tryd.underlying25; exact Tryd.underlying29
  obtain ⟨v', w', hrun, ho2, hgr, _, hob⟩ := run_append_own_at (P := Tryd.prog) w base sl o.type ty i z 7 72 hu hi hz h2 h3 hz1 (by decide) v n xs hown ⟨g, 0, none⟩ 1 1 (enC t) (by rfl)
    (fun j u hu => by
      have := hr.cell hu
      have e : (⟨g, 0, none⟩ : Addr).add j = ⟨g, j, none⟩ := by unfold Addr.add; split <;> simp_all
      rw [e]
      exact this) (enC_one t) (by unfold maxLen; omega) (by omega) hbase
  refine wpList_plain hgd fun _ hK => ?_
  unfold Oper.wp execOp
  simp only [ho, resolve, invoke, builtin, Sem.run_bind, Sem.run_pure, Result.andThen_ok, List.map_toArray, List.map_cons, List.map_nil, hs, hx, hrun]
  refine hK _ _ ?_
  have ho3 := ho2
  rcases ho3.2 with ⟨_, e⟩ | ⟨g', c, cur, rfl, _⟩
  · omega
  · exact h g' c w' ho2 hgr (by
      rcases hob with e | e
      · exact .inl (by rw [← e]; rfl)
      · exact .inr (by simpa [Value.ownBlock] using e))
end
end Go.Proofs.YtiakkfcjdmecdaaDoor
