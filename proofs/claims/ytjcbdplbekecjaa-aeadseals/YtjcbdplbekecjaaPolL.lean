/-
  Limbs of 26 bits: sums, products, carries, modulo the prime; of no program.
-/
import Derived.Test.YtjcbdplbekecjaaPol
namespace Go.Proofs.Ytjcbdplbekecjaa

def valL (l : List Nat) : Nat := val 67108864 l
/-- One limb by all of a number, added from place i on; so many of them so far. -/
def inn (x : Nat) (b : List Nat) (i : Nat) : Nat → List Nat → List Nat
  | 0, o => o
  | j + 1, o => (inn x b i j o).set (i + j) ((inn x b i j o).getD (i + j) 0 + x * b.getD j 0)
def wideK (a r : List Nat) : Nat → List Nat
  | 0 => List.replicate 9 0
  | i + 1 => inn (a.getD i 0) r i 5 (wideK a r i)
def foldK (wd : List Nat) : Nat → List Nat
  | 0 => wd.take 5
  | i + 1 => (foldK wd i).set i ((foldK wd i).getD i 0 + 5 * wd.getD (5 + i) 0)
def prodN (a r : List Nat) : List Nat := foldK (wideK a r 5) 4
/-- Carried, with what is left out back in the lowest limb. -/
def foldN (n : List Nat) : List Nat := (digs 67108864 5 (valL n)).set 0 ((digs 67108864 5 (valL n)).getD 0 0 + 5 * (valL n / 67108864 ^ 5))
def Le (l : List Nat) (M : Nat) : Prop := ∀ k, l.getD k 0 ≤ M
theorem getD_setN (o : List Nat) (i k y : Nat) : (o.set i y).getD k 0 = if i = k then (if i < o.length then y else 0) else o.getD k 0 := by
  simp only [List.getD_eq_getElem?_getD, List.getElem?_set]
  by_cases h : i = k
  · subst h
    by_cases h2 : i < o.length
    · simp [h2]
    · simp [h2]
  · simp [h]
theorem inn_len (x : Nat) (b : List Nat) (i j : Nat) (o : List Nat) : (inn x b i j o).length = o.length := by
  induction j with
  | zero => rfl
  | succ j ih => simp [inn, ih]
theorem inn_far (x : Nat) (b : List Nat) (i j : Nat) (o : List Nat) (k : Nat) (h : i + j ≤ k) : (inn x b i j o).getD k 0 = o.getD k 0 := by
  induction j with
  | zero => rfl
  | succ j ih =>
    unfold inn
    rw [getD_setN, if_neg (by omega)]
    exact ih (by omega)
theorem inn_le (x : Nat) (b : List Nat) (i : Nat) (o : List Nat) (M B : Nat) (hxb : ∀ j, x * b.getD j 0 ≤ M) (ho : Le o B) (j : Nat) : Le (inn x b i j o) (B + M) := by
  induction j with
  | zero => intro k; have := ho k; show o.getD k 0 ≤ _; omega
  | succ j ih =>
    intro k
    unfold inn
    rw [getD_setN]
    by_cases h : i + j = k
    · rw [if_pos h]
      split
      · rw [inn_far _ _ _ _ _ _ (Nat.le_refl _)]
        have h1 := ho (i + j)
        have h2 := hxb j
        omega
      · omega
    · rw [if_neg h]
      exact ih k
theorem inn_val (x : Nat) (b : List Nat) (i j : Nat) (o : List Nat) (hj : j ≤ b.length) (h : i + j ≤ o.length) : valL (inn x b i j o) = valL o + 67108864 ^ i * (x * valL (b.take j)) := by
  induction j with
  | zero => simp [inn, valL, val]
  | succ j ih =>
    unfold inn
    have hs := val_set 67108864 (inn x b i j o) (i + j) (x * b.getD j 0) (by rw [inn_len]; omega)
    unfold valL at ih ⊢
    rw [hs, ih (by omega) (by omega), val_take 67108864 b j (by omega), Nat.pow_add, Nat.mul_add, Nat.mul_add]
    have : x * (67108864 ^ j * b.getD j 0) = 67108864 ^ j * (x * b.getD j 0) := Nat.mul_left_comm _ _ _
    rw [this, Nat.add_assoc, ← Nat.mul_assoc (67108864 ^ i) (67108864 ^ j)]
theorem wide_len (a r : List Nat) (i : Nat) : (wideK a r i).length = 9 := by
  induction i with
  | zero => simp [wideK]
  | succ i ih => simp [wideK, inn_len, ih]
theorem zeros_le (n : Nat) : Le (List.replicate n 0) 0 := by
  intro k
  simp only [List.getD_eq_getElem?_getD, List.getElem?_replicate]
  split <;> simp
theorem wide_le (a r : List Nat) (M : Nat) (h : ∀ i j, a.getD i 0 * r.getD j 0 ≤ M) (i : Nat) : Le (wideK a r i) (i * M) := by
  induction i with
  | zero => rw [Nat.zero_mul]; exact zeros_le 9
  | succ i ih =>
    rw [Nat.succ_mul]
    exact inn_le _ _ _ _ _ _ (h i) ih 5
theorem wide_val (a r : List Nat) (ha : a.length = 5) (hr : r.length = 5) (i : Nat) (hi : i ≤ 5) : valL (wideK a r i) = valL (a.take i) * valL r := by
  induction i with
  | zero => simp [wideK, valL, val]
  | succ i ih =>
    unfold wideK
    rw [inn_val _ _ _ _ _ (by omega) (by rw [wide_len]; omega), ih (by omega)]
    unfold valL
    rw [val_take 67108864 a i (by omega), List.take_of_length_le (l := r) (by omega), Nat.add_mul, Nat.mul_assoc]
theorem five (l : List Nat) (h : l.length = 5) : ∃ a b c d e, l = [a, b, c, d, e] := by
  match l, h with
  | [a, b, c, d, e], _ => exact ⟨a, b, c, d, e, rfl⟩
theorem nine (l : List Nat) (h : l.length = 9) : ∃ a b c d e f g p q, l = [a, b, c, d, e, f, g, p, q] := by
  match l, h with
  | [a, b, c, d, e, f, g, p, q], _ => exact ⟨a, b, c, d, e, f, g, p, q, rfl⟩
theorem foldK_len (wd : List Nat) (h : wd.length = 9) (i : Nat) : (foldK wd i).length = 5 := by
  induction i with
  | zero => simp [foldK, h]
  | succ i ih => simp [foldK, ih]
theorem foldK_le (wd : List Nat) (M : Nat) (hw : Le wd M) (i : Nat) : Le (foldK wd i) (6 * M) ∧ ∀ k, i ≤ k → (foldK wd i).getD k 0 ≤ M := by
  induction i with
  | zero =>
    have h0 : ∀ k, (foldK wd 0).getD k 0 ≤ M := by
      intro k
      show (wd.take 5).getD k 0 ≤ M
      simp only [List.getD_eq_getElem?_getD, List.getElem?_take]
      split
      · have := hw k; rwa [List.getD_eq_getElem?_getD] at this
      · simp
    exact ⟨fun k => by have := h0 k; omega, fun k _ => h0 k⟩
  | succ i ih =>
    obtain ⟨i1, i2⟩ := ih
    have hi := i2 i (Nat.le_refl _)
    have h5 := hw (5 + i)
    constructor
    · intro k
      unfold foldK
      rw [getD_setN]
      by_cases hk : i = k
      · rw [if_pos hk]
        split <;> omega
      · rw [if_neg hk]; exact i1 k
    · intro k hk
      unfold foldK
      rw [getD_setN, if_neg (by omega)]
      exact i2 k (by omega)
theorem foldK_nine (x0 x1 x2 x3 x4 x5 x6 x7 x8 : Nat) : foldK [x0, x1, x2, x3, x4, x5, x6, x7, x8] 4 = [x0 + 5 * x5, x1 + 5 * x6, x2 + 5 * x7, x3 + 5 * x8, x4] := by
  simp [foldK]
theorem wide_four (a0 a1 a2 a3 a4 r0 r1 r2 r3 r4 : Nat) : (wideK [a0, a1, a2, a3, a4] [r0, r1, r2, r3, r4] 5).getD 4 0 = a0 * r4 + a1 * r3 + a2 * r2 + a3 * r1 + a4 * r0 := by
  simp [wideK, inn, List.replicate]
theorem foldK_four (wd : List Nat) (h : wd.length = 9) : (foldK wd 4).getD 4 0 = wd.getD 4 0 := by
  obtain ⟨x0, x1, x2, x3, x4, x5, x6, x7, x8, rfl⟩ := nine wd h
  rw [foldK_nine]
  rfl
/-- A product, but for multiples of the prime. -/
theorem prod_val (a r : List Nat) (ha : a.length = 5) (hr : r.length = 5) : ∃ H, valL a * valL r = valL (prodN a r) + PP * H := by
  have hv := wide_val a r ha hr 5 (by decide)
  rw [List.take_of_length_le (by omega)] at hv
  have hl := wide_len a r 5
  unfold prodN
  generalize wideK a r 5 = wd at *
  obtain ⟨x0, x1, x2, x3, x4, x5, x6, x7, x8, rfl⟩ := nine wd hl
  have h1 := val_split 67108864 [x0, x1, x2, x3, x4, x5, x6, x7, x8] 5 (by simp)
  have h2 : valL [x0 + 5 * x5, x1 + 5 * x6, x2 + 5 * x7, x3 + 5 * x8, x4] = val 67108864 [x0, x1, x2, x3, x4] + 5 * val 67108864 [x5, x6, x7, x8] := by
    simp only [valL, val]
    omega
  refine ⟨val 67108864 [x5, x6, x7, x8], ?_⟩
  rw [← hv, foldK_nine, h2]
  unfold valL PP
  rw [h1]
  show val 67108864 [x0, x1, x2, x3, x4] + 67108864 ^ 5 * val 67108864 [x5, x6, x7, x8] = _
  generalize val 67108864 [x0, x1, x2, x3, x4] = L
  generalize val 67108864 [x5, x6, x7, x8] = H
  omega
theorem prod_len (a r : List Nat) : (prodN a r).length = 5 := foldK_len _ (wide_len a r 5) 4
/-- What the limbs of a number may be, and those of a factor. -/
def Low (l : List Nat) (M0 M : Nat) : Prop := l.length = 5 ∧ l.getD 0 0 < M0 ∧ ∀ k, 1 ≤ k → l.getD k 0 < M
def Fac (r : List Nat) : Prop := r.length = 5 ∧ (∀ k, r.getD k 0 < 67108864) ∧ r.getD 4 0 < 1048576
theorem mul_le {a b A B : Nat} (ha : a < A) (hb : b < B) : a * b ≤ A * B := Nat.mul_le_mul (Nat.le_of_lt ha) (Nat.le_of_lt hb)
theorem wide_le2 (a r : List Nat) (ha : Low a 8589934592 134217728) (hr : Fac r) : ∀ i j, a.getD i 0 * r.getD j 0 ≤ 576460752303423488 := by
  intro i j
  have h1 : a.getD i 0 < 8589934592 := by
    rcases Nat.eq_zero_or_pos i with rfl | h
    · exact ha.2.1
    · have := ha.2.2 i h; omega
  exact mul_le h1 (hr.2.1 j)
theorem prod_le (a r : List Nat) (ha : Low a 8589934592 134217728) (hr : Fac r) : Le (prodN a r) 17293822569102704640 :=
  (foldK_le _ 2882303761517117440 (wide_le a r _ (wide_le2 a r ha hr) 5) 4).1
theorem prod_top (a r : List Nat) (ha : Low a 8589934592 134217728) (hr : Fac r) : (prodN a r).getD 4 0 ≤ 45035996273704960 := by
  obtain ⟨h0, h1, h2⟩ := ha
  obtain ⟨k0, k1, k2⟩ := hr
  obtain ⟨a0, a1, a2, a3, a4, rfl⟩ := five a h0
  obtain ⟨r0, r1, r2, r3, r4, rfl⟩ := five r k0
  unfold prodN
  rw [foldK_four _ (wide_len _ _ 5), wide_four]
  have p0 : a0 * r4 ≤ 8589934592 * 1048576 := mul_le h1 k2
  have p1 : a1 * r3 ≤ 134217728 * 67108864 := mul_le (h2 1 (by decide)) (k1 3)
  have p2 : a2 * r2 ≤ 134217728 * 67108864 := mul_le (h2 2 (by decide)) (k1 2)
  have p3 : a3 * r1 ≤ 134217728 * 67108864 := mul_le (h2 3 (by decide)) (k1 1)
  have p4 : a4 * r0 ≤ 134217728 * 67108864 := mul_le (h2 4 (by decide)) (k1 0)
  omega
theorem foldN_len (n : List Nat) : (foldN n).length = 5 := by simp [foldN, digs_len]
theorem foldN_val (n : List Nat) : valL n = valL (foldN n) + PP * (valL n / 67108864 ^ 5) := by
  have h := val_set 67108864 (digs 67108864 5 (valL n)) 0 (5 * (valL n / 67108864 ^ 5)) (by rw [digs_len]; decide)
  unfold foldN
  rw [show valL ((digs 67108864 5 (valL n)).set 0 ((digs 67108864 5 (valL n)).getD 0 0 + 5 * (valL n / 67108864 ^ 5))) = _ from h, val_digs]
  unfold PP
  have := Nat.div_add_mod (valL n) (67108864 ^ 5)
  omega
/-- A product of limbs that may be, folded, is limbs that may be. -/
theorem fold_low (n : List Nat) (h5 : n.length = 5) (hle : Le n 17293822569102704640) (htop : n.getD 4 0 ≤ 45035996273704960) : Low (foldN n) 4294967296 67108864 ∧ valL n / 67108864 ^ 5 < 858993459 := by
  have hv : valL n / 67108864 ^ 5 < 683671552 := by
    obtain ⟨x0, x1, x2, x3, x4, rfl⟩ := five n h5
    have b0 : x0 ≤ _ := hle 0
    have b1 : x1 ≤ _ := hle 1
    have b2 : x2 ≤ _ := hle 2
    have b3 : x3 ≤ _ := hle 3
    have b4 : x4 ≤ _ := htop
    simp only [valL, val]
    omega
  refine ⟨⟨foldN_len n, ?_, ?_⟩, by omega⟩
  · unfold foldN
    rw [getD_setN, if_pos rfl, if_pos (by rw [digs_len]; decide), digs_at 67108864 5 _ 0 (by decide)]
    have := Nat.mod_lt (valL n / 67108864 ^ 0) (show 0 < 67108864 by decide)
    omega
  · intro k hk
    unfold foldN
    rw [getD_setN, if_neg (by omega)]
    by_cases hk5 : k < 5
    · rw [digs_at 67108864 5 _ k hk5]
      exact Nat.mod_lt _ (by decide)
    · rw [getD_far0 _ _ (by rw [digs_len]; omega)]; decide
/-- The whole: a product modulo the prime. -/
theorem mulmod_val (a r : List Nat) (ha : Low a 8589934592 134217728) (hr : Fac r) : valL (foldN (prodN a r)) % PP = valL a * valL r % PP := by
  obtain ⟨H, hH⟩ := prod_val a r ha.1 hr.1
  have h2 := foldN_val (prodN a r)
  rw [hH, h2, Nat.add_assoc, ← Nat.mul_add, Nat.add_mul_mod_self_left]
theorem mulmod_low (a r : List Nat) (ha : Low a 8589934592 134217728) (hr : Fac r) : Low (foldN (prodN a r)) 4294967296 67108864 :=
  (fold_low _ (prod_len a r) (prod_le a r ha hr) (prod_top a r ha hr)).1
theorem low_val (l : List Nat) (h : Low l 4294967296 67108864) : valL l < 1361129467683753853853498429731300704256 := by
  obtain ⟨h0, h1, h2⟩ := h
  obtain ⟨x0, x1, x2, x3, x4, rfl⟩ := five l h0
  have b0 : x0 < _ := h1
  have b1 : x1 < _ := h2 1 (by decide)
  have b2 : x2 < _ := h2 2 (by decide)
  have b3 : x3 < _ := h2 3 (by decide)
  have b4 : x4 < _ := h2 4 (by decide)
  simp only [valL, val]
  omega
/-- Limb by limb. -/
def sumN (a b : List Nat) : List Nat := List.zipWith (· + ·) a b
theorem sumN_len (a b : List Nat) (ha : a.length = 5) (hb : b.length = 5) : (sumN a b).length = 5 := by simp [sumN, ha, hb]
theorem sumN_val (a b : List Nat) (ha : a.length = 5) (hb : b.length = 5) : valL (sumN a b) = valL a + valL b := by
  obtain ⟨x0, x1, x2, x3, x4, rfl⟩ := five a ha
  obtain ⟨y0, y1, y2, y3, y4, rfl⟩ := five b hb
  simp only [sumN, valL, val, List.zipWith_cons_cons, List.zipWith_nil_left]
  omega
theorem sumN_at (a b : List Nat) (ha : a.length = 5) (hb : b.length = 5) (k : Nat) : (sumN a b).getD k 0 = a.getD k 0 + b.getD k 0 := by
  simp only [sumN, List.getD_eq_getElem?_getD, List.getElem?_zipWith]
  by_cases h : k < 5
  · rw [List.getElem?_eq_getElem (by omega), List.getElem?_eq_getElem (by omega)]
    rfl
  · rw [List.getElem?_eq_none (by omega), List.getElem?_eq_none (by omega)]
    rfl
theorem sum_low (a b : List Nat) (ha : Low a 4294967296 67108864) (hb : ∀ k, b.getD k 0 < 67108864) (hb5 : b.length = 5) : Low (sumN a b) 8589934592 134217728 := by
  refine ⟨sumN_len a b ha.1 hb5, ?_, fun k hk => ?_⟩
  · rw [sumN_at a b ha.1 hb5]
    have := ha.2.1
    have := hb 0
    omega
  · rw [sumN_at a b ha.1 hb5]
    have := ha.2.2 k hk
    have := hb k
    omega
/-- Below p. -/
theorem reduce_val (v : Nat) (h : v < 1361129467683753853853498429731300704256) : (v + 5 * ((v + 5) / 67108864 ^ 5)) % 67108864 ^ 5 = v % PP := by
  unfold PP
  rcases Nat.lt_or_ge (v + 5) (67108864 ^ 5) with h1 | h1
  · rw [Nat.div_eq_of_lt h1, Nat.mul_zero, Nat.add_zero]
    omega
  · have h2 : (v + 5) / 67108864 ^ 5 = 1 := by omega
    rw [h2]
    omega
theorem digs_low (v : Nat) : Low (digs 67108864 5 v) 4294967296 67108864 := by
  have h : ∀ k, (digs 67108864 5 v).getD k 0 < 67108864 := fun k => by
    by_cases hk5 : k < 5
    · rw [digs_at 67108864 5 _ k hk5]
      exact Nat.mod_lt _ (by decide)
    · rw [getD_far0 _ _ (by rw [digs_len]; omega)]; decide
  exact ⟨digs_len _ _ _, by have := h 0; omega, fun k _ => h k⟩
theorem digs_lt5 (v k : Nat) : (digs 67108864 5 v).getD k 0 < 67108864 := by
  by_cases hk5 : k < 5
  · rw [digs_at 67108864 5 _ k hk5]
    exact Nat.mod_lt _ (by decide)
  · rw [getD_far0 _ _ (by rw [digs_len]; omega)]; decide
theorem digs_fac (v : Nat) (h : v < 2 ^ 124) : Fac (digs 67108864 5 v) := by
  refine ⟨digs_len _ _ _, digs_lt5 v, ?_⟩
  rw [digs_at 67108864 5 _ 4 (by decide)]
  omega
theorem valL_digs (v : Nat) (h : v < 67108864 ^ 5) : valL (digs 67108864 5 v) = v := by
  unfold valL
  rw [val_digs, Nat.mod_eq_of_lt h]
/-- A limb out of bytes. -/
theorem limb_at (v i : Nat) (hi : i < 5) : v / 256 ^ (26 * i / 8) % 4294967296 / 2 ^ (26 * i % 8) % 67108864 = v / 67108864 ^ i % 67108864 := by
  rcases i with _ | _ | _ | _ | _ | i
  · simp only [Nat.reduceMul, Nat.reduceDiv, Nat.reduceMod, Nat.reducePow]; omega
  · simp only [Nat.reduceMul, Nat.reduceDiv, Nat.reduceMod, Nat.reducePow, Nat.reduceAdd]; omega
  · simp only [Nat.reduceMul, Nat.reduceDiv, Nat.reduceMod, Nat.reducePow, Nat.reduceAdd]; omega
  · simp only [Nat.reduceMul, Nat.reduceDiv, Nat.reduceMod, Nat.reducePow, Nat.reduceAdd]; omega
  · simp only [Nat.reduceMul, Nat.reduceDiv, Nat.reduceMod, Nat.reducePow, Nat.reduceAdd]; omega
  · omega
/-- A carry. -/
theorem carry_step (l : List Nat) (k : Nat) (hk : k < l.length) : (valL (l.take k) / 67108864 ^ k + l.getD k 0) % 67108864 = valL l / 67108864 ^ k % 67108864 ∧ (valL (l.take k) / 67108864 ^ k + l.getD k 0) / 67108864 = valL (l.take (k + 1)) / 67108864 ^ (k + 1) := by
  have hp : 0 < 67108864 ^ k := Nat.pow_pos (by decide)
  constructor
  · have h1 := val_split 67108864 l k (by omega)
    unfold valL
    rw [h1, Nat.add_mul_div_left _ _ hp, val_drop 67108864 l k hk, ← Nat.add_assoc, Nat.add_mul_mod_self_left]
  · unfold valL
    rw [val_take 67108864 l k hk, Nat.pow_succ, ← Nat.div_div_eq_div_mul, Nat.add_mul_div_left _ _ hp]
end Go.Proofs.Ytjcbdplbekecjaa
