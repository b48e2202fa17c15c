/-
  Numbers as rows of bytes, digit by digit, of no program: sums, differences, which is less.
-/
import Derived.Test.YtnekdjejbobmoaaPolBytes
namespace Go.Proofs.Ytnekdjejbobmoaa

/-- A row has the digits of a number, noughts behind it. -/
def Dg (a : List Nat) (x : Nat) : Prop := ∀ k, a.getD k 0 = x / 256 ^ k % 256
theorem dg_digs (n x : Nat) (h : x < 256 ^ n) : Dg (digs 256 n x) x := by
  intro k
  by_cases hk : k < n
  · exact digs_at 256 n x k hk
  · rw [getD_far0 _ _ (by rw [digs_len]; omega), Nat.div_eq_of_lt (Nat.lt_of_lt_of_le h (Nat.pow_le_pow_right (by decide) (by omega)))]
theorem dg_lt {a : List Nat} {x : Nat} (h : Dg a x) (k : Nat) : a.getD k 0 < 256 := by rw [h k]; exact Nat.mod_lt _ (by decide)
/-- What is borrowed, ahead of place k. -/
def bor (x y k : Nat) : Nat := if x % 256 ^ k < y % 256 ^ k then 1 else 0
theorem bor_zero (x y : Nat) : bor x y 0 = 0 := by unfold bor; simp [Nat.mod_one]
theorem bor_le (x y k : Nat) : bor x y k ≤ 1 := by unfold bor; split <;> omega
theorem bor_div (x y k : Nat) (h : y ≤ x) : (x - y) / 256 ^ k = x / 256 ^ k - y / 256 ^ k - bor x y k ∧ y / 256 ^ k + bor x y k ≤ x / 256 ^ k := by
  have hp : 0 < 256 ^ k := Nat.pow_pos (by decide)
  have e1 := Nat.div_add_mod x (256 ^ k)
  have e2 := Nat.div_add_mod y (256 ^ k)
  have l1 := Nat.mod_lt x hp
  have l2 := Nat.mod_lt y hp
  unfold bor
  generalize x % 256 ^ k = a at *
  generalize y % 256 ^ k = b at *
  generalize x / 256 ^ k = X at *
  generalize y / 256 ^ k = Y at *
  generalize 256 ^ k = p at *
  split
  · have hXY : Y + 1 ≤ X := by
      rcases Nat.lt_or_ge Y X with h1 | h1
      · exact h1
      · have := Nat.mul_le_mul_left p h1
        omega
    refine ⟨?_, hXY⟩
    have hm := Nat.mul_le_mul_left p hXY
    rw [Nat.mul_add, Nat.mul_one] at hm
    have e : x - y = (p + a - b) + p * (X - Y - 1) := by
      rw [Nat.mul_sub, Nat.mul_sub, Nat.mul_one]
      omega
    rw [e, Nat.add_mul_div_left _ _ hp, Nat.div_eq_of_lt (by omega), Nat.zero_add]
  · have hXY : Y ≤ X := by
      rcases Nat.lt_or_ge X Y with h1 | h1
      · have := Nat.mul_le_mul_left p h1
        rw [Nat.succ_eq_add_one, Nat.mul_add, Nat.mul_one] at this
        omega
      · exact h1
    refine ⟨?_, hXY⟩
    have hm := Nat.mul_le_mul_left p hXY
    have e : x - y = (a - b) + p * (X - Y) := by
      rw [Nat.mul_sub]
      omega
    rw [e, Nat.add_mul_div_left _ _ hp, Nat.div_eq_of_lt (by omega), Nat.zero_add, Nat.sub_zero]
theorem bor_next (x y k : Nat) : bor x y (k + 1) = if x / 256 ^ k % 256 < y / 256 ^ k % 256 + bor x y k then 1 else 0 := by
  have hp : 0 < 256 ^ k := Nat.pow_pos (by decide)
  have l1 := Nat.mod_lt x hp
  have l2 := Nat.mod_lt y hp
  unfold bor
  rw [Nat.mod_pow_succ, Nat.mod_pow_succ]
  generalize x % 256 ^ k = a at *
  generalize y % 256 ^ k = b at *
  generalize x / 256 ^ k % 256 = X at *
  generalize y / 256 ^ k % 256 = Y at *
  generalize 256 ^ k = p at *
  rcases Nat.lt_trichotomy X Y with h | h | h
  · have := Nat.mul_le_mul_left p h
    rw [Nat.succ_eq_add_one, Nat.mul_add, Nat.mul_one] at this
    rw [if_pos (show a + p * X < b + p * Y by omega)]
    split <;> rw [if_pos (by omega)]
  · subst h
    by_cases hab : a < b
    · rw [if_pos (show a + p * X < b + p * X by omega), if_pos hab, if_pos (by omega)]
    · rw [if_neg (show ¬ a + p * X < b + p * X by omega), if_neg hab, if_neg (by omega)]
  · have := Nat.mul_le_mul_left p h
    rw [Nat.succ_eq_add_one, Nat.mul_add, Nat.mul_one] at this
    rw [if_neg (show ¬ a + p * X < b + p * Y by omega)]
    split <;> rw [if_neg (by omega)]
/-- One digit of a difference. -/
theorem bor_step (x y k : Nat) (h : y ≤ x) :
    (x / 256 ^ k % 256 < y / 256 ^ k % 256 + bor x y k → (x - y) / 256 ^ k % 256 = x / 256 ^ k % 256 + 256 - (y / 256 ^ k % 256 + bor x y k) ∧ bor x y (k + 1) = 1) ∧
    (¬ x / 256 ^ k % 256 < y / 256 ^ k % 256 + bor x y k → (x - y) / 256 ^ k % 256 = x / 256 ^ k % 256 - (y / 256 ^ k % 256 + bor x y k) ∧ bor x y (k + 1) = 0) := by
  have h1 := bor_div x y k h
  have h2 := bor_next x y k
  have h3 := bor_le x y k
  rw [h1.1]
  generalize bor x y k = c at *
  generalize x / 256 ^ k = X at *
  generalize y / 256 ^ k = Y at *
  constructor
  · intro hlt
    rw [if_pos hlt] at h2
    exact ⟨by omega, h2⟩
  · intro hlt
    rw [if_neg hlt] at h2
    exact ⟨by omega, h2⟩
/-- Numbers whose upper digits are the same. -/
theorem same_down (x y k : Nat) (h : x / 256 ^ (k + 1) = y / 256 ^ (k + 1)) :
    (x / 256 ^ k % 256 = y / 256 ^ k % 256 → x / 256 ^ k = y / 256 ^ k) ∧ (x / 256 ^ k % 256 ≠ y / 256 ^ k % 256 → decide (x < y) = decide (x / 256 ^ k % 256 < y / 256 ^ k % 256)) := by
  rw [Nat.pow_succ, ← Nat.div_div_eq_div_mul, ← Nat.div_div_eq_div_mul] at h
  refine ⟨fun he => by omega, fun hne => ?_⟩
  have key : x < y ↔ x / 256 ^ k < y / 256 ^ k := by
    constructor
    · intro hxy
      have := Nat.div_le_div_right (c := 256 ^ k) (Nat.le_of_lt hxy)
      omega
    · exact fun h => Nat.lt_of_div_lt_div h
  rw [decide_eq_decide, key]
  omega
theorem take_digs (n m v : Nat) (h : m ≤ n) : (digs 256 n v).take m = digs 256 m v := by
  apply List.ext_getElem?
  intro i
  rw [List.getElem?_take]
  by_cases hi : i < m
  · rw [if_pos hi, digs_at? 256 n v i (by omega), digs_at? 256 m v i hi]
  · rw [if_neg hi, List.getElem?_eq_none (by rw [digs_len]; omega)]
theorem digs_up (n v : Nat) : 0 :: digs 256 n v = digs 256 (n + 1) (256 * v) := by
  simp only [digs]
  rw [Nat.mul_mod_right, Nat.mul_div_cancel_left _ (by decide)]
theorem prime_digs : digs 256 17 PP = [251, 255, 255, 255, 255, 255, 255, 255, 255, 255, 255, 255, 255, 255, 255, 255, 3] := by decide
theorem le_step (r : List UInt8) (k : Nat) (h : k < r.length) : le (r.drop k) = (r.getD k 0).toNat + 256 * le (r.drop (k + 1)) := by
  have := val_drop 256 (byt r) k (by rw [byt_len]; exact h)
  rw [byt_getD] at this
  unfold le
  rw [show byt (r.drop k) = (byt r).drop k by simp [byt, List.map_drop], show byt (r.drop (k + 1)) = (byt r).drop (k + 1) by simp [byt, List.map_drop], this]
theorem mod_shift (a L q : Nat) : (256 * (a * L % PP) % PP + q * a) % PP = a * (q + 256 * L) % PP := by
  rw [Nat.mod_add_mod, Nat.mul_add, Nat.add_comm (a * q), Nat.mul_comm a q, Nat.mul_left_comm a 256 L, ← Nat.mod_add_mod, ← Nat.mod_add_mod (256 * (a * L)), Nat.mul_mod 256 (a * L % PP), Nat.mod_mod, ← Nat.mul_mod]
end Go.Proofs.Ytnekdjejbobmoaa
