/-
  Roots digit by digit, as the document's own text looks for them, of no program.
-/
import Derived.Test.YtmhcfbfdbminnaaDoorSha
namespace Go.Proofs.YtmhcfbfdbminnaaDoor

def innerN (x : Nat) (b : List Nat) (i : Nat) : Nat → List Nat → List Nat
  | 0, o => o
  | j + 1, o => (innerN x b i j o).set (i + j) ((innerN x b i j o).getD (i + j) 0 + x * b.getD j 0)
def carry1 (o : List Nat) (k : Nat) : List Nat := (o.set (k + 1) (o.getD (k + 1) 0 + o.getD k 0 / 65536)).set k (o.getD k 0 % 65536)
def carryN : Nat → List Nat → List Nat
  | 0, o => o
  | k + 1, o => carry1 (carryN k o) k
def timesK (a b : List Nat) : Nat → List Nat
  | 0 => List.replicate (a.length + b.length) 0
  | i + 1 => carryN (a.length + b.length - 1) (innerN (a.getD i 0) b i b.length (timesK a b i))
def timesN (a b : List Nat) : List Nat := timesK a b a.length
def aboveK (a b : List Nat) : Nat → Bool
  | 0 => false
  | k + 1 => if a.getD k 0 = b.getD k 0 then aboveK a b k else decide (b.getD k 0 < a.getD k 0)
def aboveN (a b : List Nat) : Bool := aboveK a b (max a.length b.length)
def digitsN (x : Nat) : List Nat := [x % 65536, x / 65536 % 65536, x / 65536 / 65536]
def powN (l : List Nat) : Nat → List Nat
  | 0 => l
  | k + 1 => timesN (powN l k) l
def wantN (p power : Nat) : List Nat := List.replicate (2 * power) 0 ++ [p]
def rootK (p power : Nat) : Nat → Nat
  | 0 => 0
  | n + 1 => if aboveN (powN (digitsN (rootK p power n + 2 ^ (36 - n))) (power - 1)) (wantN p power) then rootK p power n else rootK p power n + 2 ^ (36 - n)
def rootN (p power : Nat) : Nat := rootK p power 37 % 4294967296

/-- The primes up to k + 1. -/
def sieveN : Nat → List Nat
  | 0 => []
  | k + 1 => if (sieveN k).all (fun q => (k + 2) % q != 0) then sieveN k ++ [k + 2] else sieveN k

theorem sieve_ge (k : Nat) : ∀ q ∈ sieveN k, 2 ≤ q ∧ q ≤ k + 1 := by
  induction k with
  | zero => intro q hq; simp [sieveN] at hq
  | succ k ih =>
    intro q hq
    unfold sieveN at hq
    split at hq
    · rcases List.mem_append.1 hq with h | h
      · have := ih q h; omega
      · simp at h; omega
    · have := ih q hq; omega

/-- No number of a row is above B. -/
def allLe (o : List Nat) (B : Nat) : Prop := ∀ k, o.getD k 0 ≤ B
theorem getD_set (o : List Nat) (i k y : Nat) : (o.set i y).getD k 0 = if i = k then (if i < o.length then y else 0) else o.getD k 0 := by
  simp only [List.getD_eq_getElem?_getD, List.getElem?_set]
  by_cases h : i = k
  · subst h
    by_cases h2 : i < o.length
    · simp [h2]
    · simp [h2]
  · simp [h]
theorem inner_len (x : Nat) (b : List Nat) (i j : Nat) (o : List Nat) : (innerN x b i j o).length = o.length := by
  induction j with
  | zero => rfl
  | succ j ih => simp [innerN, ih]
theorem inner_far (x : Nat) (b : List Nat) (i j : Nat) (o : List Nat) (k : Nat) (h : i + j ≤ k) : (innerN x b i j o).getD k 0 = o.getD k 0 := by
  induction j with
  | zero => rfl
  | succ j ih =>
    unfold innerN
    rw [getD_set, if_neg (by omega)]
    exact ih (by omega)
theorem inner_le (x : Nat) (b : List Nat) (i : Nat) (o : List Nat) (A B : Nat) (hx : x ≤ A) (hb : allLe b 65535) (ho : allLe o B) (j : Nat) : allLe (innerN x b i j o) (B + A * 65535) := by
  induction j with
  | zero => intro k; have := ho k; show o.getD k 0 ≤ _; omega
  | succ j ih =>
    intro k
    unfold innerN
    rw [getD_set]
    by_cases h : i + j = k
    · rw [if_pos h]
      split
      · rw [inner_far _ _ _ _ _ _ (Nat.le_refl _)]
        have h1 := ho (i + j)
        have h2 : x * b.getD j 0 ≤ A * 65535 := Nat.mul_le_mul hx (hb j)
        omega
      · omega
    · rw [if_neg h]
      exact ih k
theorem carry_len (n : Nat) (o : List Nat) : (carryN n o).length = o.length := by
  induction n with
  | zero => rfl
  | succ n ih => simp [carryN, carry1, ih]
theorem carry_far (n : Nat) (o : List Nat) (k : Nat) (h : n < k) : (carryN n o).getD k 0 = o.getD k 0 := by
  induction n with
  | zero => rfl
  | succ n ih =>
    show (carry1 (carryN n o) n).getD k 0 = _
    unfold carry1
    rw [getD_set, if_neg (by omega), getD_set, if_neg (by omega)]
    exact ih (by omega)
theorem carry_le (o : List Nat) (M : Nat) (hM : 65535 ≤ M) (ho : allLe o M) (n : Nat) : allLe (carryN n o) (M + M / 32768 + 1) := by
  induction n with
  | zero => intro k; have := ho k; show o.getD k 0 ≤ _; omega
  | succ n ih =>
    intro k
    show (carry1 (carryN n o) n).getD k 0 ≤ _
    unfold carry1
    rw [getD_set]
    by_cases h : n = k
    · rw [if_pos h]
      split
      · omega
      · omega
    · rw [if_neg h, getD_set]
      by_cases h2 : n + 1 = k
      · rw [if_pos h2]
        split
        · rw [carry_far n o (n + 1) (by omega)]
          have h3 := ho (n + 1)
          have h4 := ih n
          omega
        · omega
      · rw [if_neg h2]
        exact ih k
theorem times_len (a b : List Nat) (i : Nat) : (timesK a b i).length = a.length + b.length := by
  induction i with
  | zero => simp [timesK]
  | succ i ih => simp [timesK, carry_len, inner_len, ih]
theorem times_le (a b : List Nat) (A : Nat) (hA : 1 ≤ A) (ha : allLe a A) (hb : allLe b 65535) (i : Nat) (hi : i ≤ 6) : allLe (timesK a b i) (65535 + i * (131072 * A)) := by
  induction i with
  | zero =>
    intro k
    simp only [timesK, List.getD_eq_getElem?_getD, List.getElem?_replicate]
    split <;> simp
  | succ i ih =>
    have h1 := inner_le (a.getD i 0) b i _ A _ (ha i) hb (ih (by omega)) b.length
    have h2 := carry_le _ _ (by omega) h1 (a.length + b.length - 1)
    intro k
    have h3 := h2 k
    show (carryN (a.length + b.length - 1) (innerN (a.getD i 0) b i b.length (timesK a b i))).getD k 0 ≤ _
    refine Nat.le_trans h3 ?_
    have h6 : i ≤ 5 := by omega
    have e1 : i * (131072 * A) ≤ 5 * (131072 * A) := Nat.mul_le_mul_right _ h6
    have e2 : (i + 1) * (131072 * A) = i * (131072 * A) + 131072 * A := by rw [Nat.add_mul]; omega
    rw [e2]
    generalize i * (131072 * A) = q at *
    omega
theorem sieve_pre (k d : Nat) : ∃ t, sieveN (k + d) = sieveN k ++ t := by
  induction d with
  | zero => exact ⟨[], by simp⟩
  | succ d ih =>
    obtain ⟨t, ht⟩ := ih
    show ∃ t, (if (sieveN (k + d)).all (fun q => (k + d + 2) % q != 0) then sieveN (k + d) ++ [k + d + 2] else sieveN (k + d)) = sieveN k ++ t
    split
    · exact ⟨t ++ [k + d + 2], by rw [ht, List.append_assoc]⟩
    · exact ⟨t, ht⟩
theorem sieve_same (k K : Nat) (h : k ≤ K) (hl : (sieveN K).length ≤ (sieveN k).length) : sieveN k = sieveN K := by
  obtain ⟨t, ht⟩ := sieve_pre k (K - k)
  rw [show k + (K - k) = K by omega] at ht
  rw [ht, List.length_append] at hl
  have : t = [] := List.eq_nil_of_length_eq_zero (by omega)
  rw [ht, this, List.append_nil]
theorem root_le (p power n : Nat) (h : n ≤ 37) : rootK p power n + 2 ^ (37 - n) ≤ 137438953472 := by
  induction n with
  | zero => simp [rootK]
  | succ n ih =>
    have h1 := ih (by omega)
    have e : (2 : Nat) ^ (37 - n) = 2 ^ (36 - n) + 2 ^ (36 - n) := by rw [show 37 - n = (36 - n) + 1 by omega, Nat.pow_succ]; omega
    rw [e] at h1
    rw [show 37 - (n + 1) = 36 - n by omega]
    unfold rootK
    generalize (2 : Nat) ^ (36 - n) = P at *
    split <;> omega
theorem digits_le (x : Nat) (h : x < 281474976710656) : allLe (digitsN x) 65535 := by
  intro k
  unfold digitsN
  match k with
  | 0 => simp; omega
  | 1 => simp; omega
  | 2 => simp; omega
  | k + 3 => simp
theorem pow_len (x k : Nat) : (powN (digitsN x) k).length = 3 * (k + 1) := by
  induction k with
  | zero => rfl
  | succ k ih =>
    show (timesN (powN (digitsN x) k) (digitsN x)).length = _
    unfold timesN
    rw [times_len, ih]
    show 3 * (k + 1) + 3 = _
    omega
theorem pow_le (x k : Nat) (h : x < 281474976710656) (hk : k ≤ 1) : allLe (powN (digitsN x) k) 68719476736 := by
  match k, hk with
  | 0, _ => exact fun i => Nat.le_trans (digits_le x h i) (by omega)
  | 1, _ =>
    intro i
    have := times_le (digitsN x) (digitsN x) 65535 (by omega) (digits_le x h) (digits_le x h) 3 (by omega) i
    refine Nat.le_trans (show (timesK (digitsN x) (digitsN x) 3).getD i 0 ≤ _ from this) (by omega)
end Go.Proofs.YtmhcfbfdbminnaaDoor
