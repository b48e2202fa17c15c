/-
  The walk of the law OctetFixes.
-/
import Derived.Test.YtldambmhclgpoaaAwake
namespace Go.Proofs.Ytldambmhclgpoaa
open Go.RowKit

theorem val_low (k n : Nat) : val (low k n) = n % 256 ^ k := by
  induction k generalizing n with
  | zero => simp [low, val, Nat.mod_one]
  | succ k ih =>
    have h : n % 256 ^ (k + 1) = n % 256 + 256 * (n / 256 % 256 ^ k) := by
      rw [Nat.pow_succ, Nat.mul_comm (256 ^ k) 256, Nat.mod_mul]
    rw [low, val, ih, UInt8.toNat_ofNat', h]

theorem fix_low (k n : Nat) (hk : k ≤ 8) : fixOf (low k n) 0 k = (n % 256 ^ k, [], 0) := by
  have h1 : okWidth (k : Int) = true := by simp [okWidth]; omega
  have h2 : takeOf (low k n) 0 k = (low k n, [], 0) := by
    unfold takeOf
    rw [if_pos rfl, if_pos (by rw [low_len]; exact Nat.le_refl _), List.take_of_length_le (by rw [low_len]; exact Nat.le_refl _), List.drop_of_length_le (by rw [low_len]; exact Nat.le_refl _)]
  unfold fixOf
  rw [h1, Int.toNat_natCast, h2, val_low]
  rfl

theorem low_mask (k n : Nat) (hk : k < 8) (hn : n < 18446744073709551616) :
    bits BinOp.and IntKind.u64 (n : Int) (IntKind.u64.wrap (IntKind.u64.wrap (2 ^ (8 * k)) - 1)) = ((n % 256 ^ k : Nat) : Int) := by
  have hp : (256 : Nat) ^ k ≤ 256 ^ 7 := Nat.pow_le_pow_right (by omega) (by omega)
  have h0 : 0 < (256 : Nat) ^ k := Nat.pow_pos (by omega)
  have e0 : ((2 : Int) ^ (8 * k)) = ((256 ^ k : Nat) : Int) := by rw [← pow256]; push_cast; rfl
  have e1 : IntKind.u64.wrap (IntKind.u64.wrap (2 ^ (8 * k)) - 1) = ((256 ^ k - 1 : Nat) : Int) := by
    rw [e0, IntKind.wrap_u64, IntKind.wrap_u64]
    omega
  rw [e1, u64_and_nat n (256 ^ k - 1) hn (by omega), ← pow256, Nat.and_two_pow_sub_one_eq_mod]

set_option maxHeartbeats 1000000 in
theorem fixes_walk (n : Nat) (k : Int) (w : World) (hn : n < 18446744073709551616) :
    Calls Try.prog 8 #[.int .u64 n, .int .i64 k] w (Awake w) := by
  by_cases h0 : k < 0
  · clear hn
    go_enter Try.func8, Try.ntmps8
    go_wp2_with fail
    refine (awake_any _).mono ?_
    rintro e w1 ⟨rfl, hg1⟩
    go_wp2
    go_ret
    exact ⟨rfl, hg1⟩
  · have h0b : decide (k < 0) = false := by simpa using h0
    by_cases h1 : 8 < k
    · clear hn
      go_enter Try.func8, Try.ntmps8
      go_wp2_with fail
      refine (awake_any _).mono ?_
      rintro e w1 ⟨rfl, hg1⟩
      go_wp2
      go_ret
      exact ⟨rfl, hg1⟩
    · have h1b : decide (8 < k) = false := by simpa using h1
      obtain ⟨K, rfl⟩ := Int.eq_ofNat_of_zero_le (by omega : 0 ≤ k)
      have hK : K ≤ 8 := by omega
      have hwid : wid (K : Int) = K := by
        have : okWidth (K : Int) = true := by simp [okWidth]; omega
        unfold wid
        rw [this]
        simp
      have HF := fixed_any (.slice none 0 0) [] n K w (Rd.nil _) (by simp) hn
      rw [hwid, List.nil_append] at HF
      have HF0 := Lib.hid HF
      have HX := Lib.hid (fix_low K n hK)
      have HLL := Lib.hid (low_len K n)
      have HM := Lib.hid (fun h => low_mask K n h hn)
      have H8 : Hid (¬ K < 8 → n = n % 256 ^ K) := fun h => by
        obtain rfl : K = 8 := by omega
        exact (Nat.mod_eq_of_lt (by omega)).symm
      have HN : Hid (n < 18446744073709551616) := hn
      clear HF hwid hn
      by_cases h8 : K < 8
      · go_enter Try.func8, Try.ntmps8
        go_wp2_with fail
        refine HF0.out.mono ?_
        rintro e w1 ⟨v1, rfl, hr1, hg1, hf1⟩
        have HW := Lib.hid (new_any v1 _ w1 hr1 (by rw [HLL.out]; omega))
        obtain ⟨A1, c1, rfl⟩ := hr1.form
        have hlen : (bytesV (low K n)).length = K := by rw [bytesV_len]; exact HLL.out
        rw [hlen] at HW hr1 ⊢
        clear hlen
        go_wp2_with fail
        rw [HM.out h8]
        generalize n % 256 ^ K = z at *
        refine HW.out.mono ?_
        rintro e w2 ⟨g, rfl, hr2, hl2, hg2⟩
        have HFX := rfix_at g _ 0 K w2 hr2
        rw [HX.out] at HFX
        have HFX0 := Lib.hid HFX
        clear HFX
        go_wp2_with fail
        refine HFX0.out.mono ?_
        rintro e w3 ⟨rfl, hr3, hg3⟩
        have HED := end_at g _ 0 w3 hr3
        have HED0 := Lib.hid HED
        clear HED
        go_wp2_with fail
        refine HED0.out.mono ?_
        rintro e w4 ⟨rfl, rfl⟩
        go_wp2_with fail
        refine (awake_any _).mono ?_
        rintro e w5 ⟨rfl, hg5⟩
        go_wp2
        go_ret
        refine ⟨rfl, ?_⟩
        have a := grown_new (grown_new hg1 hg2 (fun _ h => by cases h)) hg3 (fun b hb => ?_)
        · exact a.trans hg5
        · injection hb with hb
          have := hg1.size
          omega
      · have HZ := Lib.hid (H8.out h8)
        go_enter Try.func8, Try.ntmps8
        go_wp2_with fail
        refine HF0.out.mono ?_
        rintro e w1 ⟨v1, rfl, hr1, hg1, hf1⟩
        have HW := Lib.hid (new_any v1 _ w1 hr1 (by rw [HLL.out]; omega))
        obtain ⟨A1, c1, rfl⟩ := hr1.form
        have hlen : (bytesV (low K n)).length = K := by rw [bytesV_len]; exact HLL.out
        rw [hlen] at HW hr1 ⊢
        clear hlen
        rw [← HZ.out] at HX
        go_wp2_with fail
        refine HW.out.mono ?_
        rintro e w2 ⟨g, rfl, hr2, hl2, hg2⟩
        have HFX := rfix_at g _ 0 K w2 hr2
        rw [HX.out] at HFX
        have HFX0 := Lib.hid HFX
        clear HFX
        go_wp2_with fail
        refine HFX0.out.mono ?_
        rintro e w3 ⟨rfl, hr3, hg3⟩
        have HED := end_at g _ 0 w3 hr3
        have HED0 := Lib.hid HED
        clear HED
        go_wp2_with fail
        refine HED0.out.mono ?_
        rintro e w4 ⟨rfl, rfl⟩
        go_wp2_with fail
        refine (awake_any _).mono ?_
        rintro e w5 ⟨rfl, hg5⟩
        go_wp2
        go_ret
        refine ⟨rfl, ?_⟩
        have a := grown_new (grown_new hg1 hg2 (fun _ h => by cases h)) hg3 (fun b hb => ?_)
        · exact a.trans hg5
        · injection hb with hb
          have := hg1.size
          omega
theorem fixes_walk' (n k : Int) (w : World) (hn : 0 ≤ n ∧ n < 18446744073709551616) :
    Calls Try.prog 8 #[.int .u64 n, .int .i64 k] w (Awake w) := by
  obtain ⟨N, rfl⟩ := Int.eq_ofNat_of_zero_le hn.1
  exact fixes_walk N k w (by omega)
end Go.Proofs.Ytldambmhclgpoaa
