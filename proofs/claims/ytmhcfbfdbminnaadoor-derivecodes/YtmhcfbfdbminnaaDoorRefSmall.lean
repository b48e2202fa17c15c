/-
  The document's own small words over this program: word, turn, shift, xor, and.
-/
import Derived.Test.YtmhcfbfdbminnaaDoorDigTurned
namespace Go.Proofs.YtmhcfbfdbminnaaDoor
open Go.RowKit

/-- A call that answers a number and turns nothing. -/
def I64 (n : Nat) (w : World) (e : Ending) (w' : World) : Prop := e = .returned (.int .i64 (n : Int)) ∧ w' = w

theorem word_any (n : Nat) (h : n ≤ 1000000000000) (w : World) : Calls Tryd.prog 39 #[.int .i64 (n : Int)] w (I64 (n % 4294967296) w) := by
  go_enter Tryd.func39, Tryd.ntmps39
  go_wp2
  go_ret
  exact ⟨by simp, rfl⟩

theorem shift_any (x n : Nat) (hx : x ≤ 1000000000000) (hn : n ≤ 64) (w : World) : Calls Tryd.prog 38 #[.int .i64 (x : Int), .int .i64 (n : Int)] w (I64 (x / 2 ^ n) w) := by
  go_enter Tryd.func38, Tryd.ntmps38
  go_wp2
  go_loop [0, 5] (fun a i => ∃ k : Nat, k ≤ n ∧ i = .int .i64 k ∧ a = .int .i64 ((x / 2 ^ k : Nat) : Int)) (fun _ i => n - (intOf i).toNat)
  case atStart => exact ⟨0, Nat.zero_le _, rfl, by simp⟩
  case round =>
    obtain ⟨k, hk, rfl, rfl⟩ := hrel
    have hs : x / 2 ^ (k + 1) = x / 2 ^ k / 2 := by rw [Nat.pow_succ, Nat.div_div_eq_div_mul]
    have hle : x / 2 ^ k ≤ 1000000000000 := Nat.le_trans (Nat.div_le_self _ _) hx
    have HS := Lib.hid hs
    generalize hN : x / 2 ^ k = N at *
    have HN := Lib.hid hN
    clear hs hN
    by_cases hlt : k < n
    · go_wp2
      go_round
      case rel => exact ⟨k + 1, by omega, by go_num, by rw [HS.out]; go_num⟩
      case measure => simp [intOf]; omega
    · go_wp2
      go_ret
      refine ⟨?_, rfl⟩
      rw [show n = k by omega, HN.out]
      rfl

/-- A number of 32 bits, turned down. -/
def rn (k x : Nat) : Nat := x / 2 ^ k + x % 2 ^ k * 2 ^ (32 - k)
theorem rn_zero (x : Nat) : rn 0 x = x := by simp [rn, Nat.mod_one]
theorem rn_succ (k x : Nat) (h : k < 32) : rn (k + 1) x = rn k x / 2 + rn k x % 2 * 2147483648 := by
  unfold rn
  have hP : 2 ^ (32 - k) = 2 * 2 ^ (31 - k) := by rw [← Nat.pow_succ']; congr 1; omega
  have hKP : 2 ^ k * 2 ^ (31 - k) = 2147483648 := by rw [← Nat.pow_add, show k + (31 - k) = 31 by omega]
  have hq : x / 2 ^ (k + 1) = x / 2 ^ k / 2 := by rw [Nat.pow_succ, Nat.div_div_eq_div_mul]
  have hr : x % 2 ^ (k + 1) = x / 2 ^ k % 2 * 2 ^ k + x % 2 ^ k := by
    rw [Nat.pow_succ, Nat.mod_mul, Nat.mul_comm (2 ^ k), Nat.add_comm]
  rw [hq, hr, hP, show 32 - (k + 1) = 31 - k by omega, Nat.add_mul, Nat.mul_assoc (x / 2 ^ k % 2), hKP]
  generalize x / 2 ^ k = q
  have e : x % 2 ^ k * (2 * 2 ^ (31 - k)) = 2 * (x % 2 ^ k * 2 ^ (31 - k)) := by rw [← Nat.mul_assoc, Nat.mul_comm (x % 2 ^ k) 2, Nat.mul_assoc]
  rw [e]
  generalize x % 2 ^ k * 2 ^ (31 - k) = r
  omega
theorem rr_nat (n : Nat) (h : n ≤ 32) (x : W32) : (rr n x).toNat = rn n x.toNat := by
  unfold rr rn
  have h32 : (2 : Nat) ^ 32 = 2 ^ n * 2 ^ (32 - n) := by rw [← Nat.pow_add]; congr 1; omega
  rw [BitVec.toNat_or, BitVec.toNat_ushiftRight, BitVec.toNat_shiftLeft, Nat.shiftLeft_eq, Nat.shiftRight_eq_div_pow, h32, Nat.mul_mod_mul_right, Nat.or_comm]
  have hlt : x.toNat / 2 ^ n < 2 ^ (32 - n) := by
    rw [Nat.div_lt_iff_lt_mul (Nat.two_pow_pos n), Nat.mul_comm, ← h32]
    exact x.isLt
  have := Nat.two_pow_add_eq_or_of_lt (i := 32 - n) hlt (x.toNat % 2 ^ n)
  rw [Nat.mul_comm (x.toNat % 2 ^ n), ← this]
  omega
theorem rn_lt (k x : Nat) (h : k ≤ 32) (hx : x < 4294967296) : rn k x < 4294967296 := by
  have := rr_nat k h (BitVec.ofNat 32 x)
  rw [BitVec.toNat_ofNat, Nat.mod_eq_of_lt hx] at this
  rw [← this]
  exact (rr k (BitVec.ofNat 32 x)).isLt

theorem turn_any (x : W32) (n : Nat) (hn : n ≤ 32) (w : World) : Calls Tryd.prog 37 #[.int .i64 (x.toNat : Int), .int .i64 (n : Int)] w (I64 (rr n x).toNat w) := by
  have hx := x.isLt
  have HR := Lib.hid (rr_nat n hn x)
  generalize (rr n x).toNat = R at *
  generalize x.toNat = X at *
  go_enter Tryd.func37, Tryd.ntmps37
  go_wp2
  go_loop [0, 5] (fun a i => ∃ k : Nat, k ≤ n ∧ i = .int .i64 k ∧ a = .int .i64 ((rn k X : Nat) : Int)) (fun _ i => n - (intOf i).toNat)
  case atStart => exact ⟨0, Nat.zero_le _, rfl, by rw [rn_zero]⟩
  case round =>
    obtain ⟨k, hk, rfl, rfl⟩ := hrel
    by_cases hlt : k < n
    · have HS := Lib.hid (rn_succ k X (by omega))
      have hle := rn_lt k X (by omega) hx
      generalize rn k X = N at *
      go_wp2
      go_round
      case rel => exact ⟨k + 1, by omega, by go_num, by rw [HS.out]; go_num⟩
      case measure => simp [intOf]; omega
    · have hkn : rn k X = R := by rw [HR.out, show n = k by omega]
      rw [hkn]
      clear hkn
      go_wp2
      go_ret
      exact ⟨rfl, rfl⟩

theorem refXor_any (a b : W32) (w : World) : Calls Tryd.prog 36 #[.int .i64 (a.toNat : Int), .int .i64 (b.toNat : Int)] w (I64 (a ^^^ b).toNat w) := by
  have HX := Lib.hid (xor32 a b)
  have hab := (a ^^^ b).isLt
  have ha := a.isLt
  have hb := b.isLt
  generalize (a ^^^ b).toNat = X at *
  generalize a.toNat = A at *
  generalize b.toNat = B at *
  go_enter Tryd.func36, Tryd.ntmps36
  go_wp2
  rw [HX.out]
  go_ret
  refine ⟨?_, rfl⟩
  have hw : wrap64 (X : Int) = (X : Int) := by unfold wrap64; omega
  rw [hw]
  rfl
theorem refAnd_any (a b : W32) (w : World) : Calls Tryd.prog 40 #[.int .i64 (a.toNat : Int), .int .i64 (b.toNat : Int)] w (I64 (a &&& b).toNat w) := by
  have HX := Lib.hid (and32 a b)
  have hab := (a &&& b).isLt
  have ha := a.isLt
  have hb := b.isLt
  generalize (a &&& b).toNat = X at *
  generalize a.toNat = A at *
  generalize b.toNat = B at *
  go_enter Tryd.func40, Tryd.ntmps40
  go_wp2
  rw [HX.out]
  go_ret
  refine ⟨?_, rfl⟩
  have hw : wrap64 (X : Int) = (X : Int) := by unfold wrap64; omega
  rw [hw]
  rfl
end Go.Proofs.YtmhcfbfdbminnaaDoor
