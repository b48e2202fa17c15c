/-
  Numbers of layer 10: the lowest bits of a number (of no program).
-/
import Derived.Test.YtohndlfekecfoaaCod
namespace Go.Proofs.Ytohndlfekecfoaa
set_option maxRecDepth 1000000
open Go.RowKit

theorem i64_mask (n : Int) (k : Nat) (hk : k ≤ 62) : bits .and .i64 n (2 ^ k - 1) = n % 2 ^ k := by
  have hp : (2 : Nat) ^ k ≤ 2 ^ 62 := Nat.pow_le_pow_right (by decide) hk
  have hp0 : 0 < (2 : Nat) ^ k := Nat.pow_pos (by decide)
  have hm : (BitVec.ofInt 64 (2 ^ k - 1)).toNat = 2 ^ k - 1 := by
    rw [BitVec.toNat_ofInt, show ((2 : Int) ^ k - 1) = (((2 : Nat) ^ k - 1 : Nat) : Int) by rw [Int.ofNat_sub hp0]; simp]
    generalize (2 : Nat) ^ k = p at *
    omega
  have key : (BitVec.ofInt 64 n &&& BitVec.ofInt 64 (2 ^ k - 1)).toNat = (n % ((2 ^ 64 : Nat) : Int)).toNat % 2 ^ k := by
    rw [BitVec.toNat_and, BitVec.toNat_ofInt, hm, Nat.and_two_pow_sub_one_eq_mod]
  show IntKind.i64.wrap ((BitVec.ofInt 64 n &&& BitVec.ofInt 64 (2 ^ k - 1)).toNat : Nat) = n % 2 ^ k
  have hd : ((2 : Int) ^ k) ∣ ((2 ^ 64 : Nat) : Int) := ⟨2 ^ (64 - k), by rw [← Int.pow_add, show k + (64 - k) = 64 by omega]; rfl⟩
  have h1 : (((n % ((2 ^ 64 : Nat) : Int)).toNat % 2 ^ k : Nat) : Int) = n % 2 ^ k := by
    rw [Int.natCast_emod, Int.toNat_of_nonneg (Int.emod_nonneg _ (by decide))]
    rw [show (((2 : Nat) ^ k : Nat) : Int) = (2 : Int) ^ k by norm_cast]
    exact Int.emod_emod_of_dvd n hd
  rw [key, h1, IntKind.wrap_i64]
  have h2 := Int.emod_nonneg n (show (2 : Int) ^ k ≠ 0 by have : (0 : Int) < 2 ^ k := Int.pow_pos (by decide); omega)
  have h3 := Int.emod_lt_of_pos n (show (0 : Int) < 2 ^ k from Int.pow_pos (by decide))
  have h4 : (2 : Int) ^ k ≤ 2 ^ 62 := by exact_mod_cast hp
  omega
theorem i64_and1 (n : Int) : bits .and .i64 n 1 = n % 2 := i64_mask n 1 (by decide)
theorem div_in (n : Int) (k : Nat) (h : -9223372036854775808 ≤ n ∧ n ≤ 9223372036854775807) : -9223372036854775808 ≤ n / 2 ^ k ∧ n / 2 ^ k ≤ 9223372036854775807 := by
  have hp : (0 : Int) < 2 ^ k := Int.pow_pos (by decide)
  generalize (2 : Int) ^ k = p at *
  refine ⟨(Int.le_ediv_iff_mul_le hp).2 ?_, ?_⟩
  · have : -9223372036854775808 * p ≤ -9223372036854775808 * 1 := Int.mul_le_mul_of_nonpos_left (by decide) (by omega)
    omega
  · have h2 : n / p < 9223372036854775807 + 1 := (Int.ediv_lt_iff_lt_mul hp).2 (by
      have : (9223372036854775807 + 1) * 1 ≤ (9223372036854775807 + 1) * p := Int.mul_le_mul_of_nonneg_left (by omega) (by decide)
      omega)
    omega
theorem bit_ne (n : Int) (k : Nat) : decide (bits .and .i64 (n / 2 ^ k) 1 ≠ 0) = bitAt n k := by
  rw [i64_and1]
  unfold bitAt
  generalize n / 2 ^ k = m
  by_cases h : m % 2 = 1
  · simp [h]
  · have : m % 2 = 0 := by omega
    simp [this]

theorem wrap_pow (B : Nat) (h : B ≤ 62) : IntKind.i64.wrap ((2 : Int) ^ B) = (((2 : Nat) ^ B : Nat) : Int) := by
  have hp : (2 : Nat) ^ B ≤ 2 ^ 62 := Nat.pow_le_pow_right (by decide) h
  have e : (2 : Int) ^ B = (((2 : Nat) ^ B : Nat) : Int) := by norm_cast
  rw [e]
  generalize (2 : Nat) ^ B = m at *
  rw [IntKind.wrap_i64]
  omega
theorem bit_val (n : Int) (k : Nat) : bits .and .i64 (n / 2 ^ k) 1 = ((bitAt n k).toNat : Int) := by
  rw [i64_and1]
  unfold bitAt
  generalize n / 2 ^ k = m
  by_cases h : m % 2 = 1
  · simp [h]
  · have : m % 2 = 0 := by omega
    simp [this]
theorem bit_dec (b : Bool) : decide ((b.toNat : Int) ≠ 0) = b := by cases b <;> rfl
theorem bit_le (b : Bool) : b.toNat ≤ 1 := by cases b <;> decide
theorem or_bit (p : Nat) (b : Bool) (hp : p ≤ 4294967296) : bits .or .i64 ((p : Int) * 2) (b.toNat : Int) = ((2 * p + b.toNat : Nat) : Int) := by
  have hb := bit_le b
  show IntKind.i64.wrap ((BitVec.ofInt 64 ((p : Int) * 2) ||| BitVec.ofInt 64 (b.toNat : Int)).toNat : Int) = _
  rw [BitVec.toNat_or, show (BitVec.ofInt 64 ((p : Int) * 2)).toNat = 2 ^ 1 * p by rw [BitVec.toNat_ofInt]; omega, show (BitVec.ofInt 64 (b.toNat : Int)).toNat = b.toNat by rw [BitVec.toNat_ofInt]; omega, ← Nat.two_pow_add_eq_or_of_lt (by omega : b.toNat < 2 ^ 1) p, IntKind.wrap_i64]
  omega
end Go.Proofs.Ytohndlfekecfoaa
