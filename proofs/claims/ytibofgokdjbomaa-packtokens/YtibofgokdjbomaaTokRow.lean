/-
  Slices of tokens: how they read, an element of them, and append of one.
-/
import Derived.Test.YtibofgokdjbomaaTokFn
import Derived.Great.BuildSlice
import Derived.Maps.AppendAt
namespace Go.Proofs.Ytibofgokdjbomaa
set_option maxRecDepth 1000000
open Go.RowKit

/-- The slice value v reads, in world w, as these tokens. -/
def RdT (w : World) (v : Value) (l : List Tok) : Prop :=
  ∃ A c, v = .slice A l.length c ∧ l.length ≤ c ∧ c ≤ maxLen ∧
    (l ≠ [] → ∃ ad : Addr, A = some ad ∧ ∀ (j : Nat) t, l[j]? = some t → ∀ (i : Nat) u, (tokC t)[i]? = some u → w.cell? (ad.add (j * 3 + i)) = some u)
theorem RdT.grown0 {w w' : World} {v : Value} {l : List Tok} (h : RdT w v l) (hg : w.grownBy w' none) : RdT w' v l := by
  obtain ⟨A, c, rfl, h1, h2, h3⟩ := h
  refine ⟨A, c, rfl, h1, h2, fun hne => ?_⟩
  obtain ⟨ad, rfl, hc⟩ := h3 hne
  refine ⟨ad, rfl, fun j t ht i u hu => ?_⟩
  have := hc j t ht i u hu
  have hlt := World.block_lt_of_cell? w _ this
  rw [← this]
  exact World.cell?_of_block (hg.block _ hlt (by simp))
theorem RdT.form {w : World} {v : Value} {l : List Tok} (h : RdT w v l) : ∃ A c, v = .slice A l.length c := by
  obtain ⟨A, c, hv, _⟩ := h
  exact ⟨A, c, hv⟩
theorem RdT.at_ {w : World} {A : Option Addr} {n c k : Nat} {l : List Tok} (h : RdT w (.slice A n c) l) (hk : k < l.length) :
    ∃ ad, A = some ad ∧ (∀ i u, (tokC l[k])[i]? = some u → w.cell? ((ad.add (k * 3)).add i) = some u) := by
  obtain ⟨A', c', he, _, _, hc⟩ := h
  injection he with h1 h2 h3
  subst h1
  obtain ⟨ad, rfl, hcl⟩ := hc (by rintro rfl; simp at hk)
  exact ⟨ad, rfl, fun i u hu => by rw [add_add]; exact hcl k _ (List.getElem?_eq_getElem hk) i u hu⟩
theorem RdT.tok {w : World} {A : Option Addr} {n c k : Nat} {l : List Tok} (h : RdT w (.slice A n c) l) (hk : k < l.length) :
    ∃ ad t, A = some ad ∧ l[k] = t ∧ w.cell? (ad.add (k * 3)) = some (.int .u8 (t.lit.toNat : Int)) ∧ w.cell? ⟨(ad.add (k * 3)).block, (ad.add (k * 3)).off + 1, none⟩ = some (.int .i64 t.len) ∧ w.cell? ⟨(ad.add (k * 3)).block, (ad.add (k * 3)).off + 2, none⟩ = some (.int .i64 t.back) := by
  obtain ⟨ad, rfl, hc⟩ := h.at_ hk
  exact ⟨ad, _, rfl, rfl, hc 0 _ rfl, hc 1 _ rfl, hc 2 _ rfl⟩
theorem RdT.len {w : World} {A : Option Addr} {n c : Nat} {l : List Tok} (h : RdT w (.slice A n c) l) : l.length = n ∧ n ≤ c ∧ c ≤ maxLen := by
  obtain ⟨A', c', he, h1, h2, _⟩ := h
  injection he with e1 e2 e3
  subst e3 e2
  exact ⟨rfl, h1, h2⟩
def tokCs (l : List Tok) : List Value := l.flatMap tokC
theorem tokCs_len : ∀ l : List Tok, (tokCs l).length = 3 * l.length
  | [] => rfl
  | t :: l => by
    have := tokCs_len l
    simp only [tokCs, List.flatMap_cons, List.length_append, List.length_cons] at this ⊢
    rw [this, show (tokC t).length = 3 from rfl]
    omega
theorem tokCs_at : ∀ (l : List Tok) (j : Nat) t, l[j]? = some t → ∀ (i : Nat) u, (tokC t)[i]? = some u → (tokCs l)[j * 3 + i]? = some u
  | [], j, t, h, _, _, _ => by simp at h
  | t0 :: l, 0, t, h, i, u, hu => by
    simp at h
    subst h
    simp only [tokCs, List.flatMap_cons, Nat.zero_mul, Nat.zero_add]
    rw [List.getElem?_append_left (List.getElem?_eq_some_iff.1 hu).1]
    exact hu
  | t0 :: l, j + 1, t, h, i, u, hu => by
    simp only [tokCs, List.flatMap_cons]
    rw [List.getElem?_append_right (by rw [show (tokC t0).length = 3 from rfl]; omega), show (tokC t0).length = 3 from rfl, show (j + 1) * 3 + i - 3 = j * 3 + i by omega]
    exact tokCs_at l j t (by simpa using h) i u hu
theorem tokCs_app (a b : List Tok) : tokCs (a ++ b) = tokCs a ++ tokCs b := by simp [tokCs]
theorem tokC_one (t : Tok) : ∀ x ∈ tokC t, x.oneCell' = true := by
  intro x hx
  simp [tokC] at hx
  rcases hx with rfl | rfl | rfl <;> rfl
theorem RdT.of_own {w : World} {base : Nat} {e : TypeId} {v : Value} {n : Nat} {l : List Tok} (hn : n = l.length) (h : w.ownsRow base e 3 v n (tokCs l)) : RdT w v l := by
  subst hn
  have hc := @World.ownsRow.cells _ _ _ _ _ _ _ h
  rcases h.2 with ⟨rfl, e0⟩ | ⟨g, cap, cur, rfl, _, hg, hnc, hcm, hs, ht⟩
  · have : l = [] := List.eq_nil_of_length_eq_zero (by omega)
    subst this
    exact ⟨none, 0, rfl, Nat.le_refl _, Nat.zero_le _, fun h => absurd rfl h⟩
  · exact ⟨_, cap, rfl, hnc, hcm, fun _ => ⟨_, rfl, fun j t hj i u hu => hc (g := g) rfl _ _ (tokCs_at l j t hj i u hu)⟩⟩

theorem infoTok (ty : TypeId) (h : ty = 37 ∨ ty = 41) : ∃ i z, Try.prog.info? ty = some i ∧ i.zero = some z ∧ z.cells.size = 3 ∧ i.size = 3 ∧ i.bytes = 24 := by
  have h : (Try.prog.info? ty).map (fun i => (i.zero.map (fun z => z.cells.size), i.size, i.bytes)) = some (some 3, 3, 24) := by rcases h with rfl | rfl <;> kernel_rfl
  obtain ⟨i, hi, he⟩ := Option.map_eq_some_iff.1 h
  simp only [Prod.mk.injEq, Option.map_eq_some_iff] at he
  obtain ⟨⟨z, hz, h1⟩, h2, h3⟩ := he
  exact ⟨i, z, hi, hz, h1, h2, h3⟩

theorem fold_set : ∀ (l : List Value) (k : Nat) (cs : Array Value), k + l.length ≤ cs.size →
    (l.zipIdx k).foldl (fun (cs : Array Value) (x : Value × Nat) => cs.setIfInBounds (0 + x.2) x.1) cs = (cs.toList.take k ++ l ++ cs.toList.drop (k + l.length)).toArray
  | [], k, cs, h => by simp
  | x :: l, k, cs, h => by
    simp only [List.length_cons] at h
    rw [List.zipIdx_cons, List.foldl_cons, fold_set l (k + 1) _ (by simp; omega)]
    congr 1
    apply List.ext_getElem?
    intro i
    simp only [Nat.zero_add, Array.toList_setIfInBounds, List.getElem?_append, List.length_append, List.length_take, List.length_set, List.getElem?_take, List.getElem?_set, List.getElem?_drop, List.length_cons, Array.length_toList]
    rcases Nat.lt_trichotomy i k with hi | hi | hi
    · simp [show i < k + 1 by omega, show i < cs.size by omega, show ¬ k = i by omega, hi, show i < k + 1 + l.length by omega, show i < k + (l.length + 1) by omega, show min (k + 1) cs.size = k + 1 by omega, show min k cs.size = k by omega]
    · subst hi
      simp [show i < cs.size by omega, show min (i + 1) cs.size = i + 1 by omega, show min i cs.size = i by omega]
      omega
    · simp only [show min (k + 1) cs.size = k + 1 by omega, show min k cs.size = k by omega]
      by_cases h2 : i < k + 1 + l.length
      · have e : i - k = (i - (k + 1)) + 1 := by omega
        simp [h2, show i < k + (l.length + 1) by omega, show ¬ i < k + 1 by omega, show ¬ i < k by omega, e]
      · simp [h2, show ¬ i < k + (l.length + 1) by omega]
        rw [if_neg (by omega)]
        congr 1
        omega

section
variable {ops : Array Oper} {rest : List Oper} {o : Oper} {a : Act} {w : World} {Q : Exit → Act → World → Prop}
/-- A token that lies anywhere, taken out whole. -/
theorem run_loadTok (ty : TypeId) (hty : ty = 37 ∨ ty = 41) (w : World) (ad : Addr) (t : Tok) (hc : ∀ i u, (tokC t)[i]? = some u → w.cell? (ad.add i) = some u) :
    (Instr.loadAt ty (.pointer (some ad))).run Try.prog w = .ok (tokV t) w := by
  have hl : (loadCells ad 3).run Try.prog w = .ok (tokC t).toArray w := run_loadCells_list (P := Try.prog) w ad (tokC t) (fun j v hv => hc j v hv)
  have hu : ∃ fs, Try.prog.underlying ty = some (.struct fs) := by rcases hty with rfl | rfl <;> first | exact ⟨_, Try.underlying37⟩ | exact ⟨_, Try.underlying41⟩
  obtain ⟨fs, hu⟩ := hu
  obtain ⟨i, z, hi, _, _, hs, _⟩ := infoTok ty hty
  simp only [Instr.loadAt, Instr.sureAddr, Sem.run_bind, Sem.run_pure, Result.andThen]
  simp [loadVar, isAgg, run_underlying hu, sizeOf, typeInfo, hi, hs, hl, tokV, tokC]
theorem wpList_loadTok (hgd : o.guard = none) (x : Operand) (ty : TypeId) (ho : o.op = .load ty x) (hty : ty = 37 ∨ ty = 41) (ad : Addr) (t : Tok) (hv : a.eval x = .pointer (some ad))
    (hc : ∀ i u, (tokC t)[i]? = some u → w.cell? (ad.add i) = some u) (h : wpList Try.prog ops Q rest (a.put o.dst (tokV t)) w) : wpList Try.prog ops Q (o :: rest) a w :=
  wpList_plain hgd fun _ hK => by
    have hrun := run_loadTok ty hty w ad t hc
    unfold Oper.wp execOp
    simp only [ho, hv, Sem.run_bind, hrun, Result.andThen_ok, Sem.run_pure]
    exact hK _ _ h
/-- A slice of one token, made anew. -/
theorem wpList_buildTok (hg : o.guard = none) (x : Operand) (ty sl : TypeId) (hty : (ty = 37 ∧ sl = 31) ∨ (ty = 41 ∧ sl = 40)) (ho : o.op = .buildSlice sl 1 #[(0, x)]) (t : Tok) (hx : a.eval x = tokV t)
    (h : wpList Try.prog ops Q rest (a.put o.dst (.slice (some ⟨w.heap.size, 0, none⟩) 1 1)) (w.alloc (.cells (tokC t).toArray ty))) : wpList Try.prog ops Q (o :: rest) a w := by
  obtain ⟨i, z, hi, hz, h1, h2, h3⟩ := infoTok ty (by rcases hty with h | h; exact .inl h.1; exact .inr h.1)
  have hu : Try.prog.underlying sl = some (.slice ty) := by rcases hty with ⟨rfl, rfl⟩ | ⟨rfl, rfl⟩; exact Try.underlying31; exact Try.underlying40
  refine wpList_buildSlice hg sl ty 1 #[(0, x)] ho (tokC t).toArray i z hu hi hz (by rw [h2]; decide) (by rw [h2]; decide) ?_ h
  rw [h2]
  have hsz : ((Array.range (1 * 3)).map (z.cells[· % z.cells.size]!)).size = 3 := by simp
  generalize ((Array.range (1 * 3)).map (z.cells[· % z.cells.size]!)) = cs at *
  simp only [List.map_toArray, List.map_cons, List.map_nil, hx, Instr.fill]
  have hc : (tokV t).cells = (tokC t).toArray := rfl
  rw [hc, if_neg (by simp [tokC, hsz])]
  have := fold_set (tokC t) 0 cs (by rw [hsz, show (tokC t).length = 3 from rfl]; decide)
  simp only [Nat.zero_mul]
  rw [← Array.foldl_toList, Array.toList_zipIdx, show (tokC t).toArray.toList = tokC t from rfl]
  refine congrArg some (this.trans ?_)
  have e : cs.toList.drop (0 + (tokC t).length) = [] := List.drop_eq_nil_of_le (by simp [hsz, tokC])
  rw [e]
  simp
/-- append of tokens that lie in a row onto a row of the call's own. -/
theorem wpList_appTok (hgd : o.guard = none) (s x : Operand) (ty sl : TypeId) (hty : (ty = 37 ∧ sl = 31) ∨ (ty = 41 ∧ sl = 40)) (ho : o.op = .call { callee := .builtin .append, args := #[s, x], argTypes := #[sl, sl] })
    (base : Nat) (v : Value) (n : Nat) (xs : List Value) (hs : a.eval s = v) (hown : w.ownsRow base ty 3 v n xs) (g : Nat) (t : Tok) (hx : a.eval x = .slice (some ⟨g, 0, none⟩) 1 1) (hr : Row w g ty (tokC t))
    (hn : n ≤ 1000000) (hbase : base ≤ w.heap.size)
    (h : ∀ g' c w', w'.ownsRow base ty 3 (.slice (some ⟨g', 0, none⟩) (n + 1) c) (n + 1) (xs ++ tokC t) → w.grownBy w' v.ownBlock → (some g' = v.ownBlock ∨ g' = w.heap.size) → wpList Try.prog ops Q rest (a.put o.dst (.slice (some ⟨g', 0, none⟩) (n + 1) c)) w') : wpList Try.prog ops Q (o :: rest) a w := by
  obtain ⟨i, z, hi, hz, hz1, h2, h3⟩ := infoTok ty (by rcases hty with h | h; exact .inl h.1; exact .inr h.1)
  have hu : Try.prog.underlying sl = some (.slice ty) := by rcases hty with ⟨rfl, rfl⟩ | ⟨rfl, rfl⟩; exact Try.underlying31; exact Try.underlying40
  obtain ⟨v', w', hrun, ho2, hgr, _, hob⟩ := run_append_own_at (P := Try.prog) w base sl o.type ty i z 3 24 hu hi hz h2 h3 hz1 (by decide) v n xs hown ⟨g, 0, none⟩ 1 1 (tokC t) (by rfl)
    (fun j u hu => by
      have := hr.cell hu
      have e : (⟨g, 0, none⟩ : Addr).add j = ⟨g, j, none⟩ := by unfold Addr.add; split <;> simp_all
      rw [e]
      exact this) (tokC_one t) (by unfold maxLen; omega) (by omega) hbase
  refine wpList_plain hgd fun _ hK => ?_
  unfold Oper.wp execOp
  simp only [ho, resolve, invoke, builtin, Sem.run_bind, Sem.run_pure, Result.andThen_ok, List.map_toArray, List.map_cons, List.map_nil, hs, hx, hrun]
  refine hK _ _ ?_
  have ho3 := ho2
  rcases ho3.2 with ⟨_, e⟩ | ⟨g', c, cur, rfl, _⟩
  · omega
  · exact h g' c w' ho2 hgr (by
      rcases hob with e | e
      · exact .inl (by rw [← e]; rfl)
      · exact .inr (by simpa [Value.ownBlock] using e))
end
end Go.Proofs.Ytibofgokdjbomaa
