/-
  The document's own small words of layer 5 over this program: word, turn, xor.
-/
import Derived.Test.YtmhpnddelebjdaaStrQuarter
import Derived.Test.YtmhpnddelebjdaaAppInts
namespace Go.Proofs.Ytmhpnddelebjdaa
open Go.RowKit

/-- A call that answers a number and turns nothing. -/
def I64 (n : Nat) (w : World) (e : Ending) (w' : World) : Prop := e = .returned (.int .i64 (n : Int)) ∧ w' = w

theorem rword_any (n : Nat) (h : n ≤ 1000000000000) (w : World) : Calls Try.prog 19 #[.int .i64 (n : Int)] w (I64 (n % 4294967296) w) := by
  go_enter Try.func19, Try.ntmps19
  go_wp2
  go_ret
  exact ⟨by simp, rfl⟩
/-- A number of 32 bits, turned up. -/
def ln (k x : Nat) : Nat := x % 2 ^ (32 - k) * 2 ^ k + x / 2 ^ (32 - k)
theorem ln_zero (x : Nat) (h : x < 4294967296) : ln 0 x = x := by
  unfold ln
  rw [Nat.sub_zero, Nat.mod_eq_of_lt (by omega), Nat.div_eq_of_lt (by omega)]
  omega
theorem ln_succ (k x : Nat) (h : k < 32) (hx : x < 4294967296) : ln (k + 1) x = ln k x * 2 % 4294967296 + ln k x / 2147483648 := by
  unfold ln
  have hj : 2 ^ (32 - k) = 2 ^ (32 - (k + 1)) * 2 := by rw [← Nat.pow_succ]; congr 1; omega
  have h31 : 2 ^ (32 - (k + 1)) * 2 ^ k = 2147483648 := by rw [← Nat.pow_add, show 32 - (k + 1) + k = 31 by omega]
  have hq : x / 2 ^ (32 - k) = x / 2 ^ (32 - (k + 1)) / 2 := by rw [hj, Nat.div_div_eq_div_mul]
  have hr : x % 2 ^ (32 - k) = x % 2 ^ (32 - (k + 1)) + 2 ^ (32 - (k + 1)) * (x / 2 ^ (32 - (k + 1)) % 2) := by rw [hj, Nat.mod_mul]
  have hqk : x / 2 ^ (32 - (k + 1)) / 2 < 2 ^ k := by
    rw [← hq, Nat.div_lt_iff_lt_mul (Nat.two_pow_pos _), ← Nat.pow_add, show k + (32 - k) = 32 by omega]
    omega
  have hrl : x % 2 ^ (32 - (k + 1)) < 2 ^ (32 - (k + 1)) := Nat.mod_lt _ (Nat.two_pow_pos _)
  rw [hq, hr, Nat.pow_succ 2 k]
  generalize x / 2 ^ (32 - (k + 1)) = Q at *
  generalize x % 2 ^ (32 - (k + 1)) = R at *
  have hb : Q % 2 = 0 ∨ Q % 2 = 1 := by omega
  have ht : R * 2 ^ k + 2 ^ k ≤ 2147483648 := by
    rw [← h31, ← Nat.succ_mul]
    exact Nat.mul_le_mul_right _ hrl
  have e : (R + 2 ^ (32 - (k + 1)) * (Q % 2)) * 2 ^ k = R * 2 ^ k + 2147483648 * (Q % 2) := by
    rw [Nat.add_mul, Nat.mul_right_comm, h31]
  rw [e, ← Nat.mul_assoc]
  generalize R * 2 ^ k = T at *
  generalize 2 ^ k = K at *
  omega
theorem rl_nat (n : Nat) (h : n ≤ 32) (x : W32) : (rl n x).toNat = ln n x.toNat := by
  unfold rl ln
  have h32 : (2 : Nat) ^ 32 = 2 ^ (32 - n) * 2 ^ n := by rw [← Nat.pow_add]; congr 1; omega
  rw [BitVec.toNat_or, BitVec.toNat_ushiftRight, BitVec.toNat_shiftLeft, Nat.shiftLeft_eq, Nat.shiftRight_eq_div_pow, h32, Nat.mul_mod_mul_right]
  have hlt : x.toNat / 2 ^ (32 - n) < 2 ^ n := by
    rw [Nat.div_lt_iff_lt_mul (Nat.two_pow_pos _), Nat.mul_comm, ← h32]
    exact x.isLt
  have := Nat.two_pow_add_eq_or_of_lt (i := n) hlt (x.toNat % 2 ^ (32 - n))
  rw [Nat.mul_comm (x.toNat % 2 ^ (32 - n)), ← this]
theorem ln_lt (k x : Nat) (h : k ≤ 32) (hx : x < 4294967296) : ln k x < 4294967296 := by
  have := rl_nat k h (BitVec.ofNat 32 x)
  rw [BitVec.toNat_ofNat, Nat.mod_eq_of_lt hx] at this
  rw [← this]
  exact (rl k (BitVec.ofNat 32 x)).isLt

theorem rturn_any (x : W32) (n : Nat) (hn : n ≤ 32) (w : World) : Calls Try.prog 20 #[.int .i64 (x.toNat : Int), .int .i64 (n : Int)] w (I64 (rl n x).toNat w) := by
  have hx := x.isLt
  have HR := Lib.hid (rl_nat n hn x)
  generalize (rl n x).toNat = R at *
  generalize x.toNat = X at *
  go_enter Try.func20, Try.ntmps20
  go_wp2
  go_loop [0, 5] (fun a i => ∃ k : Nat, k ≤ n ∧ i = .int .i64 k ∧ a = .int .i64 ((ln k X : Nat) : Int)) (fun _ i => n - (intOf i).toNat)
  case atStart => exact ⟨0, Nat.zero_le _, rfl, by rw [ln_zero X hx]⟩
  case round =>
    obtain ⟨k, hk, rfl, rfl⟩ := hrel
    by_cases hlt : k < n
    · have HS := Lib.hid (ln_succ k X (by omega) hx)
      have hle := ln_lt k X (by omega) hx
      generalize ln k X = N at *
      go_wp2
      go_round
      case rel => exact ⟨k + 1, by omega, by go_num, by rw [HS.out]; go_num⟩
      case measure => simp [intOf]; omega
    · have hkn : ln k X = R := by rw [HR.out, show n = k by omega]
      rw [hkn]
      clear hkn
      go_wp2
      go_ret
      exact ⟨rfl, rfl⟩

theorem rxor_any (a b : W32) (w : World) : Calls Try.prog 21 #[.int .i64 (a.toNat : Int), .int .i64 (b.toNat : Int)] w (I64 (a ^^^ b).toNat w) := by
  have HX := Lib.hid (xor32 a b)
  have hab := (a ^^^ b).isLt
  have ha := a.isLt
  have hb := b.isLt
  generalize (a ^^^ b).toNat = X at *
  generalize a.toNat = A at *
  generalize b.toNat = B at *
  go_enter Try.func21, Try.ntmps21
  go_wp2
  rw [HX.out]
  go_ret
  refine ⟨?_, rfl⟩
  have hw : wrap64 (X : Int) = (X : Int) := by unfold wrap64; omega
  rw [hw]
  rfl
end Go.Proofs.Ytmhpnddelebjdaa
