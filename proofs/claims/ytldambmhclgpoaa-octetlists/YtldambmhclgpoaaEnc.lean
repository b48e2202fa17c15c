/-
  What was put is read, and nothing else is read as it: of numbers' bytes.
-/
import Derived.Test.YtldambmhclgpoaaRNum
namespace Go.Proofs.Ytldambmhclgpoaa

theorem ofNat_of_toNat (c : UInt8) (n : Nat) (h : c.toNat = n) : UInt8.ofNat n = c := by
  subst h
  exact UInt8.ofNat_toNat

theorem fnum_enc (f k acc m : Nat) (r : List UInt8) (hf : (enc m).length ≤ f) (hk : 0 < k → 0 < m) :
    fnum f k acc (enc m ++ r) = (acc + m * 128 ^ k, k + (enc m).length, 0) := by
  induction f generalizing k acc m with
  | zero => have := enc_pos m; omega
  | succ f ih =>
    by_cases h : m < 128
    · rw [enc_small h]
      have hm : (UInt8.ofNat m).toNat = m := by rw [UInt8.toNat_ofNat']; omega
      show fnum (f + 1) k acc (UInt8.ofNat m :: r) = _
      rw [fnum, hm, if_neg (by omega), if_neg (by omega), Nat.mod_eq_of_lt h]
      rfl
    · have hb := enc_big (n := m) (by omega)
      rw [hb] at hf ⊢
      have hc : (UInt8.ofNat (128 + m % 128)).toNat = 128 + m % 128 := by rw [UInt8.toNat_ofNat']; omega
      show fnum (f + 1) k acc (UInt8.ofNat (128 + m % 128) :: (enc (m / 128) ++ r)) = _
      rw [fnum, hc, if_pos (by omega), ih (k + 1) _ (m / 128) (by simp only [List.length_cons] at hf; omega) (by omega)]
      have e : acc + (128 + m % 128) % 128 * 128 ^ k + m / 128 * 128 ^ (k + 1) = acc + m * 128 ^ k := by
        have e1 : (128 + m % 128) % 128 = m % 128 := by omega
        have e2 : m / 128 * 128 ^ (k + 1) = m / 128 * 128 * 128 ^ k := by rw [Nat.pow_succ, Nat.mul_comm (128 ^ k) 128, Nat.mul_assoc]
        have e3 : m % 128 * 128 ^ k + m / 128 * 128 * 128 ^ k = m * 128 ^ k := by
          rw [← Nat.add_mul]
          congr 1
          omega
        rw [e1, e2, Nat.add_assoc, e3]
      rw [e, List.length_cons]
      congr 2
      omega

theorem first_enc (m : Nat) (r : List UInt8) (hm : m ≤ 1099511627775) : first (enc m ++ r) = (m, (enc m).length, 0) := by
  have h6 : (enc m).length ≤ 6 := by
    have : ∀ k n : Nat, n < 128 ^ (k + 1) → (enc n).length ≤ k + 1 := by
      intro k
      induction k with
      | zero => intro n h; rw [enc_small (by simpa using h)]; simp
      | succ k ih =>
        intro n h
        by_cases hn : n < 128
        · rw [enc_small hn]; simp
        · rw [enc_big (by omega), List.length_cons]
          have := ih (n / 128) (by rw [Nat.div_lt_iff_lt_mul (by omega)]; rw [Nat.pow_succ] at h; exact h)
          omega
    exact this 5 m (by omega)
  unfold first
  rw [fnum_enc 6 0 0 m r h6 (by omega)]
  simp

theorem fnum_back (f k acc : Nat) (l : List UInt8) (h : (fnum f k acc l).2.2 = 0) :
    ∃ m t, (fnum f k acc l).1 = acc + m * 128 ^ k ∧ (fnum f k acc l).2.1 = k + t ∧ l.take t = enc m ∧ t ≤ l.length ∧ (0 < k → 0 < m) := by
  induction f generalizing k acc l with
  | zero => simp [fnum] at h
  | succ f ih =>
    cases l with
    | nil => simp [fnum] at h
    | cons c r =>
      rw [fnum] at h ⊢
      by_cases hc : 128 ≤ c.toNat
      · rw [if_pos hc] at h ⊢
        obtain ⟨m, t, h1, h2, h3, h4, h5⟩ := ih _ _ _ h
        have hm := h5 (by omega)
        have hcl := UInt8.toNat_lt c
        refine ⟨c.toNat % 128 + 128 * m, t + 1, ?_, by omega, ?_, by simp only [List.length_cons]; omega, by omega⟩
        · rw [h1, Nat.add_mul, Nat.pow_succ, Nat.add_assoc]
          congr 2
          rw [Nat.mul_comm (128 ^ k) 128, ← Nat.mul_assoc, Nat.mul_comm m 128]
        · rw [List.take_succ_cons, h3, enc_big (n := c.toNat % 128 + 128 * m) (by omega)]
          rw [show (c.toNat % 128 + 128 * m) / 128 = m by omega, ofNat_of_toNat c _ (by omega)]
      · rw [if_neg hc] at h ⊢
        by_cases hz : c.toNat = 0 ∧ 0 < k
        · rw [if_pos hz] at h; simp at h
        · rw [if_neg hz]
          refine ⟨c.toNat, 1, by rw [Nat.mod_eq_of_lt (by omega)], rfl, ?_, by simp, by omega⟩
          rw [enc_small (by omega), ofNat_of_toNat c _ rfl]
          simp

theorem first_back (l : List UInt8) (h : (first l).2.2 = 0) : l.take (first l).2.1 = enc (first l).1 ∧ (first l).2.1 ≤ l.length := by
  obtain ⟨m, t, h1, h2, h3, h4, _⟩ := fnum_back 6 0 0 l h
  unfold first
  rw [h1, h2]
  simp only [Nat.zero_add, Nat.pow_zero, Nat.mul_one]
  exact ⟨h3, h4⟩
end Go.Proofs.Ytldambmhclgpoaa
