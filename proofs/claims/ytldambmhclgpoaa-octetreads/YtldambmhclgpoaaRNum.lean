/-
  octet's Reader: Number, over this program.
-/
import Derived.Test.YtldambmhclgpoaaTake
namespace Go.Proofs.Ytldambmhclgpoaa
open Go.RowKit

theorem fnum_size (f k acc : Nat) (l : List UInt8) (h : (fnum f k acc l).2.2 = 0) : (fnum f k acc l).2.1 ≤ k + l.length := by
  induction f generalizing k acc l with
  | zero => simp [fnum] at h
  | succ f ih =>
    cases l with
    | nil => simp [fnum] at h
    | cons c r =>
      rw [fnum] at h ⊢
      split
      · rename_i hc
        rw [if_pos hc] at h
        have := ih _ _ _ h
        simp only [List.length_cons]
        omega
      · rename_i hc
        rw [if_neg hc] at h
        split
        · simp
        · simp only [List.length_cons]; omega
theorem acc_lt (acc d k : Nat) (h : acc < 128 ^ k) : acc + d % 128 * 128 ^ k < 128 ^ (k + 1) := by
  have h2 : d % 128 * 128 ^ k ≤ 127 * 128 ^ k := Nat.mul_le_mul_right _ (by omega)
  rw [Nat.pow_succ]
  omega
theorem pow128_pos (k : Nat) : 0 < 128 ^ k := Nat.pow_pos (by omega)
theorem fnum_lt (f k acc : Nat) (l : List UInt8) (h : acc < 128 ^ k) : (fnum f k acc l).1 < 128 ^ (k + f) := by
  induction f generalizing k acc l with
  | zero => exact pow128_pos _
  | succ f ih =>
    cases l with
    | nil => exact pow128_pos _
    | cons c r =>
      have hs := acc_lt acc c.toNat k h
      rw [fnum]
      split
      · have := ih (k + 1) _ r hs
        rw [show k + (f + 1) = k + 1 + f by omega]
        exact this
      · split
        · exact pow128_pos _
        · exact Nat.lt_of_lt_of_le hs (Nat.pow_le_pow_right (by omega) (by omega))
theorem first_size (l : List UInt8) (h : (first l).2.2 = 0) : (first l).2.1 ≤ l.length := by
  have := fnum_size 6 0 0 l h
  rw [Nat.zero_add] at this
  exact this
theorem first_lt (l : List UInt8) : (first l).1 < 4398046511104 := fnum_lt 6 0 0 l (by decide)

/-- The number that is read, what is left, and the error. -/
def numOf (l : List UInt8) (x most : Int) : Nat × List UInt8 × Int :=
  if x = 0 then
    (if (first l).2.2 = 0 then (if most < (first l).1 ∨ 1099511627775 < (first l).1 then (0, l, 3) else ((first l).1, l.drop (first l).2.1, 0))
     else (0, l, (first l).2.2))
  else (0, l, x)

set_option maxHeartbeats 400000 in
theorem rnum_nil (most : Int) (w : World) :
    Calls Try.prog 19 #[.pointer none, .int .i64 most] w fun e w' => e = .returned (.int .i64 0) ∧ w = w' := by
  go_enter Try.func19, Try.ntmps19
  go_wp2_with (go_at_call 28; refine (err_nil _).mono ?_; rintro e w1 ⟨rfl, rfl⟩)
  go_ret
  exact ⟨rfl, rfl⟩

set_option maxHeartbeats 1000000 in
theorem rnum_at (g : Nat) (l : List UInt8) (x most : Int) (w : World) (h : Rdr w g l x) (hl : l.length ≤ 140737488355328) :
    Calls Try.prog 19 #[.pointer (some ⟨g, 0, none⟩), .int .i64 most] w (RdrOut w g (.int .i64 (numOf l x most).1) (numOf l x most).2.1 (numOf l x most).2.2) := by
  have HE := Lib.hid (err_at g l x w h)
  have HR := h
  by_cases hx : x = 0
  · subst hx
    have hF := first_lt l
    have hS := first_size l
    obtain ⟨v, hb, hv, hlt⟩ := h
    have HF := first_any v l w hv hl
    obtain ⟨A, c, rfl⟩ := hv.form
    rw [bytesV_len] at hb HF
    have h1 : w.cell? ⟨g, 0, none⟩ = some (.slice A l.length c) := by rw [cell_of_row w g 0 _ _ _ hb]; rfl
    clear hb hlt hv hl
    have hN : numOf l 0 most = (if (first l).2.2 = 0 then (if most < (first l).1 ∨ 1099511627775 < (first l).1 then (0, l, 3) else ((first l).1, l.drop (first l).2.1, 0)) else (0, l, (first l).2.2)) := by
      unfold numOf; rw [if_pos rfl]
    rw [hN]
    clear hN
    unfold FirstOut at HF
    generalize (first l).1 = n at *
    generalize (first l).2.1 = s at *
    generalize (first l).2.2 = y at *
    have HF0 := Lib.hid HF
    clear HF
    by_cases hy : y = 0
    · subst hy
      have hs := hS rfl
      clear hS
      by_cases hr : most < n ∨ 1099511627775 < n
      · rw [if_pos rfl, if_pos (by omega)]
        have HL := fail_at g l 0 3 w HR
        rw [show failOf 0 3 = 3 from rfl] at HL
        have HL0 := Lib.hid HL
        clear HL
        by_cases hm : 1099511627775 < most
        · have hn : 1099511627775 < (n : Int) := by omega
          clear hr
          go_enter Try.func19, Try.ntmps19
          go_wp2_with (first | (go_at_call 28; refine HE.out.mono ?_; rintro e w1 ⟨rfl, rfl⟩) | (go_at_call 36; refine HF0.out.mono ?_; rintro e w1 ⟨rfl, rfl⟩) | fail)
          refine HL0.out.mono ?_
          rintro e w1 ⟨rfl, hr1, hg1⟩
          go_wp2
          go_ret
          exact ⟨rfl, hr1, hg1⟩
        · have hn : most < (n : Int) := by omega
          clear hr
          go_enter Try.func19, Try.ntmps19
          go_wp2_with (first | (go_at_call 28; refine HE.out.mono ?_; rintro e w1 ⟨rfl, rfl⟩) | (go_at_call 36; refine HF0.out.mono ?_; rintro e w1 ⟨rfl, rfl⟩) | fail)
          refine HL0.out.mono ?_
          rintro e w1 ⟨rfl, hr1, hg1⟩
          go_wp2
          go_ret
          exact ⟨rfl, hr1, hg1⟩
      · rw [if_pos rfl, if_neg (by omega)]
        have HL := take_at g l 0 s w HR
        have hT : takeOf l 0 s = (l.take s, l.drop s, 0) := by unfold takeOf; rw [if_pos rfl, if_pos hs]
        rw [hT] at HL
        clear hT
        have HL0 := Lib.hid HL
        clear HL
        by_cases hm : 1099511627775 < most
        · have hn : ¬ 1099511627775 < (n : Int) := by omega
          have hn2 : decide (1099511627775 < (n : Int)) = false := by simpa using hn
          clear hr
          go_enter Try.func19, Try.ntmps19
          go_wp2_with (first | (go_at_call 28; refine HE.out.mono ?_; rintro e w1 ⟨rfl, rfl⟩) | (go_at_call 36; refine HF0.out.mono ?_; rintro e w1 ⟨rfl, rfl⟩) | fail)
          refine HL0.out.mono ?_
          rintro e w1 ⟨v1, rfl, _, _, hr1, hg1⟩
          go_wp2
          go_ret
          exact ⟨rfl, hr1, hg1⟩
        · have hn : ¬ most < (n : Int) := by omega
          have hn2 : decide (most < (n : Int)) = false := by simpa using hn
          clear hr
          go_enter Try.func19, Try.ntmps19
          go_wp2_with (first | (go_at_call 28; refine HE.out.mono ?_; rintro e w1 ⟨rfl, rfl⟩) | (go_at_call 36; refine HF0.out.mono ?_; rintro e w1 ⟨rfl, rfl⟩) | fail)
          refine HL0.out.mono ?_
          rintro e w1 ⟨v1, rfl, _, _, hr1, hg1⟩
          go_wp2
          go_ret
          exact ⟨rfl, hr1, hg1⟩
    · rw [if_neg hy]
      have HL := fail_at g l 0 y w HR
      rw [show failOf 0 y = y from rfl] at HL
      have HL0 := Lib.hid HL
      clear HL hS
      have hy1 : (y == 0) = false := by simpa using hy
      have hy2 : (y != 0) = true := by simpa using hy
      go_enter Try.func19, Try.ntmps19
      go_wp2_with (first | (go_at_call 28; refine HE.out.mono ?_; rintro e w1 ⟨rfl, rfl⟩) | (go_at_call 36; refine HF0.out.mono ?_; rintro e w1 ⟨rfl, rfl⟩) | fail)
      refine HL0.out.mono ?_
      rintro e w1 ⟨rfl, hr1, hg1⟩
      go_wp2
      go_ret
      exact ⟨rfl, hr1, hg1⟩
  · have hN : numOf l x most = (0, l, x) := by unfold numOf; rw [if_neg hx]
    rw [hN]
    clear hN
    have hx1 : (x != 0) = true := by simpa using hx
    clear h
    go_enter Try.func19, Try.ntmps19
    go_wp2_with (go_at_call 28; refine HE.out.mono ?_; rintro e w1 ⟨rfl, rfl⟩)
    go_ret
    exact ⟨rfl, HR, grown_refl _ _⟩
end Go.Proofs.Ytldambmhclgpoaa
