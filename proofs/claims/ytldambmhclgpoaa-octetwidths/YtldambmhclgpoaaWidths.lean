/-
  Proved: for every int n the law OctetWidths returns true (a number has as many bytes as it needs, of 7 bits each); its argument reads as it did. Conditions: none.
-/
import Derived.Test.YtldambmhclgpoaaAwake
import Derived.ProofKit
import Derived.OpenShut
namespace Go.Proofs.Ytldambmhclgpoaa
open Go.RowKit

theorem enc_len_pow (k n : Nat) (h : n < 128 ^ (k + 1)) : (enc n).length ≤ k + 1 := by
  induction k generalizing n with
  | zero => rw [enc_small (by simpa using h)]; simp
  | succ k ih =>
    by_cases hn : n < 128
    · rw [enc_small hn]; simp
    · rw [enc_big (by omega), List.length_cons]
      have := ih (n / 128) (by rw [Nat.div_lt_iff_lt_mul (by omega)]; rw [Nat.pow_succ] at h; exact h)
      omega

/-- How many bytes more a number has whose lowest 7 bits are gone. -/
def extra (m : Nat) : Nat := if m = 0 then 0 else (enc m).length
theorem extra_div (n : Nat) : 1 + extra (n / 128) = (enc n).length := by
  unfold extra
  by_cases h : n < 128
  · rw [enc_small h, if_pos (by omega)]; rfl
  · rw [enc_big (n := n) (by omega), if_neg (by omega), List.length_cons]; omega
theorem extra_pos (m : Nat) (h : 0 < m) : extra m = 1 + extra (m / 128) := by
  rw [extra_div]; unfold extra; rw [if_neg (by omega)]

set_option maxHeartbeats 1000000 in
set_option maxRecDepth 100000 in
theorem widths_walk (n : Int) (w : World) :
    Calls Try.prog 9 #[.int .i64 n] w (Awake w) := by
  by_cases h0 : n < 0
  · go_enter Try.func9, Try.ntmps9
    go_wp2_with fail
    refine (awake_any _).mono ?_
    rintro e w1 ⟨rfl, hg1⟩
    go_wp2
    go_ret
    exact ⟨rfl, hg1⟩
  · have h0b : decide (n < 0) = false := by simpa using h0
    by_cases h1 : 1099511627775 < n
    · go_enter Try.func9, Try.ntmps9
      go_wp2_with fail
      refine (awake_any _).mono ?_
      rintro e w1 ⟨rfl, hg1⟩
      go_wp2
      go_ret
      exact ⟨rfl, hg1⟩
    · have h1b : decide (1099511627775 < n) = false := by simpa using h1
      obtain ⟨N, rfl⟩ := Int.eq_ofNat_of_zero_le (by omega : 0 ≤ n)
      have hE := enc_len_pow 5 N (by omega)
      have hX := extra_div N
      have hnn : norm (N : Int) = N := by unfold norm; rw [if_neg (by omega)]; simp
      have HNM := number_any (.slice none 0 0) [] N w (Rd.nil _) (by simp)
      rw [hnn, List.nil_append] at HNM
      have HNM0 := Lib.hid HNM
      clear HNM hnn
      have HX := Lib.hid hX
      clear hX
      go_enter Try.func9, Try.ntmps9
      go_wp2_with fail
      go_loop [3, 4] (fun a b => ∃ (j m : Nat), a = .int .i64 j ∧ b = .int .i64 m ∧ j + extra m = (enc N).length) (fun _ b => (intOf b).toNat)
      case atStart => exact ⟨1, N / 128, rfl, by go_num, HX.out⟩
      case round =>
        obtain ⟨j, m, rfl, rfl, hj⟩ := hrel
        have hj6 : j ≤ 6 := by omega
        by_cases hm : 0 < m
        · have hx := extra_pos m hm
          have HJ := Lib.hid hj
          have HXM := Lib.hid hx
          clear hj hx
          go_wp2
          go_round
          case rel => exact ⟨j + 1, m / 128, by go_num, by go_num, by rw [← HJ.out, HXM.out]; omega⟩
          case measure => simp [intOf]; omega
        · obtain rfl : m = 0 := by omega
          have hj2 : j = (enc N).length := by rw [← hj]; simp [extra]
          have HJ := Lib.hid hj2
          clear hj hj2
          go_wp2_with fail
          refine HNM0.out.mono ?_
          rintro e w1 ⟨v1, rfl, hr1, hg1, hf1⟩
          obtain ⟨A1, c1, rfl⟩ := hr1.form
          rw [bytesV_len, ← HJ.out] at hr1 ⊢
          go_wp2_with fail
          refine (awake_any _).mono ?_
          rintro e w2 ⟨rfl, hg2⟩
          go_wp2
          go_ret
          exact ⟨rfl, hg1.trans hg2⟩
end Go.Proofs.Ytldambmhclgpoaa
