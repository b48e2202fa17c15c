/-
  Layer 13: what follows of entries that may be (pure mathematics).
-/
import Derived.Test.YtiakkfcjdmecdaaDoorEnWithin
import Derived.Test.YtiakkfcjdmecdaaDoorEnFl
namespace Go.Proofs.YtiakkfcjdmecdaaDoor
set_option maxRecDepth 1000000
open Go.RowKit

theorem getD_take {α : Type} {l : List α} {n j : Nat} (d : α) (h : j < n) : (l.take n).getD j d = l.getD j d := by
  simp [List.getD_eq_getElem?_getD, List.getElem?_take, h]
theorem asc_pair {l : List En} (h : ascTo l l.length = true) {k : Nat} (h0 : 0 < k) (hk : k < l.length) : cmpP (l.getD (k - 1) default).path (l.getD k default).path < 0 := by
  rw [ascTo, List.all_eq_true] at h
  have := h k (List.mem_range.2 hk)
  simp only [Bool.or_eq_true, beq_iff_eq, decide_eq_true_eq] at this
  rcases this with h1 | h1
  · omega
  · exact h1
theorem asc_lt {l : List En} (h : ascTo l l.length = true) {i j : Nat} (hij : i < j) (hj : j < l.length) : cmpP (l.getD i default).path (l.getD j default).path < 0 := by
  induction j with
  | zero => omega
  | succ j ih =>
    have h1 := asc_pair h (k := j + 1) (by omega) hj
    rw [Nat.add_sub_cancel] at h1
    by_cases e : i = j
    · subst e; exact h1
    · exact ordP.trans _ _ _ (ih (by omega) (by omega)) h1
/-- No two entries that may be have one path. -/
theorem fine_paths {l : List En} (h : fineE l = true) {i j : Nat} (hij : i < j) (hj : j < l.length) : (l.getD i default).path ≠ (l.getD j default).path := by
  have := asc_lt (fine_good h).1.asc hij hj
  intro e
  rw [(ordP.zero _ _).2 e] at this
  omega
theorem good_why {l : List En} (h : Good l) : whyE l = 0 := by
  have h1 : l.all (fun e => rightB e.path) = true := List.all_eq_true.2 h.right
  have h4 : l.all (fun e => decide (e.size ≤ 1048576)) = true := List.all_eq_true.2 fun e he => by simpa using (h.size e he).2
  have h6 : l.all okE = true := List.all_eq_true.2 h.ok
  have h5 : sumE l = sizesE l := sumE_sizes l fun e he => (h.size e he).1
  have h3 := h.few
  have h7 := h.sum
  unfold whyE
  rw [h1, h.asc, h4, h5, h6, if_neg (by decide), if_neg (by decide), if_neg (by omega), if_neg (by decide), if_neg (by omega), if_neg (by decide)]
theorem sizes_nonneg : ∀ (l : List En), (∀ e ∈ l, 0 ≤ e.size) → 0 ≤ sizesE l
  | [], _ => by simp [sizesE]
  | e :: l, h => by
    have := sizes_nonneg l fun x hx => h x (List.mem_cons_of_mem _ hx)
    have := h e List.mem_cons_self
    rw [sizesE]; omega
theorem sizes_take {l : List En} (h : ∀ e ∈ l, 0 ≤ e.size) (n : Nat) : sizesE (l.take n) ≤ sizesE l := by
  have h1 : sizesE l = sizesE (l.take n) + sizesE (l.drop n) := by rw [← sizesE_app, List.take_append_drop]
  have := sizes_nonneg (l.drop n) fun e he => h e (List.mem_of_mem_drop he)
  omega
theorem Good.take {l : List En} (h : Good l) (n : Nat) : Good (l.take n) := by
  refine ⟨fun e he => h.right e (List.mem_of_mem_take he), ?_, by have := h.few; rw [List.length_take]; omega, fun e he => h.size e (List.mem_of_mem_take he), fun e he => h.ok e (List.mem_of_mem_take he), ?_⟩
  · rw [ascTo, List.all_eq_true]
    intro j hj
    have hj' := List.mem_range.1 hj
    rw [List.length_take] at hj'
    rw [getD_take _ (by omega), getD_take _ (by omega)]
    have h2 := h.asc
    rw [ascTo, List.all_eq_true] at h2
    exact h2 j (List.mem_range.2 (by omega))
  · have := sizes_take (fun e he => (h.size e he).1) n
    have := h.sum
    omega
theorem fine_of {l : List En} (h : Good l) (hb : begsTo l l.length = true) : fineE l = true := by
  rw [fineE, good_why h, hb]; rfl
theorem fine_take {l : List En} (h : fineE l = true) (n : Nat) : fineE (l.take n) = true := by
  obtain ⟨hg, hb⟩ := fine_good h
  refine fine_of (hg.take n) ?_
  rw [begsTo, List.all_eq_true] at hb ⊢
  intro j hj
  have hj' := List.mem_range.1 hj
  rw [List.length_take] at hj'
  rw [getD_take _ (by omega), List.take_take, Nat.min_eq_left (by omega)]
  exact hb j (List.mem_range.2 (by omega))

theorem tw_mono {p q : En → Bool} (h : ∀ e, p e = true → q e = true) : ∀ l : List En, (l.takeWhile p).length ≤ (l.takeWhile q).length
  | [] => Nat.le_refl _
  | e :: l => by
    rw [List.takeWhile_cons, List.takeWhile_cons]
    cases hp : p e
    · simp
    · rw [h e hp]
      simp [tw_mono h l]
theorem within_mono (l : List En) {m n : Int} (h : m ≤ n) : withinE l m ≤ withinE l n := by
  unfold withinE
  split
  · exact tw_mono (fun e he => by simp only [decide_eq_true_eq] at he ⊢; omega) l
  · exact Nat.le_refl _
theorem within_le (l : List En) (m : Int) : withinE l m ≤ l.length := by
  unfold withinE
  split
  · exact (List.takeWhile_sublist _).length_le
  · exact Nat.zero_le _
theorem within_total {l : List En} (h : fineE l = true) : withinE l (totalE l) = l.length := by
  obtain ⟨hg, hb⟩ := fine_good h
  unfold withinE totalE
  rw [if_pos h, if_pos h]
  refine tw_all _ l (List.all_eq_true.2 fun e he => ?_)
  obtain ⟨k, hk, rfl⟩ := List.getElem_of_mem he
  have hd : l.getD k default = l[k] := by simp [List.getElem?_eq_getElem hk]
  rw [begsTo, List.all_eq_true] at hb
  have h1 := beq_iff_eq.1 (hb k (List.mem_range.2 hk))
  have h2 := sizesE_next l k hk
  have h3 := sizes_take (fun e he => (hg.size e he).1) (k + 1)
  rw [hd] at h1 h2
  simp only [decide_eq_true_eq]
  omega

theorem toldF_take (l : List Fl) (b n : Nat) : toldF b (l.take n) = (toldF b l).take n := by
  induction l generalizing b n with
  | nil => simp [toldF]
  | cons f l ih =>
    cases n with
    | zero => rfl
    | succ n => simp [toldF, ih]
theorem sizes_told (l : List Fl) (b : Nat) : sizesE (toldF b l) = ((dataF l).length : Int) := by
  induction l generalizing b with
  | nil => rfl
  | cons f l ih =>
    rw [toldF, sizesE, ih]
    simp [enF, dataF, List.flatMap_cons]
theorem told_at (l : List Fl) (b j : Nat) (h : j < l.length) : (toldF b l).getD j default = enF (l.getD j default) ((b + (dataF (l.take j)).length : Nat) : Int) := by
  induction l generalizing b j with
  | nil => simp at h
  | cons f l ih =>
    cases j with
    | zero => simp [toldF, dataF]
    | succ j =>
      have := ih (b + f.data.length) j (by simpa using h)
      simp only [toldF, List.getD_cons_succ, this, List.take_succ_cons, dataF, List.flatMap_cons, List.length_append, Nat.add_assoc]
theorem begs_told (l : List Fl) : begsTo (toldF 0 l) (toldF 0 l).length = true := by
  rw [begsTo, List.all_eq_true]
  intro j hj
  have hj' := List.mem_range.1 hj
  rw [toldF_len] at hj'
  rw [told_at l 0 j hj', ← toldF_take, sizes_told]
  simp [enF]
/-- Files' entries may be, if nothing is amiss. -/
theorem fine_told (l : List Fl) : fineE (toldF 0 l) = (whyE (toldF 0 l) == 0) := by
  rw [fineE, begs_told, Bool.and_true]
theorem why_take {l : List Fl} (h : whyE (toldF 0 l) = 0) (n : Nat) : whyE (toldF 0 (l.take n)) = 0 := by
  rw [toldF_take]
  exact good_why ((why_zero h).take n)
/-- Files out of entries and data. -/
def fillF : List En → List UInt8 → List Fl
  | [], _ => []
  | e :: l, d => ⟨e.path, e.kind, e.mode, e.time, d.take e.size.toNat, e.to⟩ :: fillF l (d.drop e.size.toNat)
theorem fill_told (l : List Fl) (b : Nat) (r : List UInt8) : fillF (toldF b l) (dataF l ++ r) = l := by
  induction l generalizing b with
  | nil => rfl
  | cons f l ih =>
    have e1 : dataF (f :: l) ++ r = f.data ++ (dataF l ++ r) := by simp [dataF, List.flatMap_cons]
    rw [toldF, fillF, e1]
    simp only [enF, Int.toNat_natCast, List.take_left', List.drop_left', ih]
end Go.Proofs.YtiakkfcjdmecdaaDoor
