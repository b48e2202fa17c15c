/-
  The law PackBound, walked.
-/
import Derived.Test.YtibofgokdjbomaaPkAwake
namespace Go.Proofs.Ytibofgokdjbomaa
set_option maxRecDepth 1000000
open Go.RowKit

set_option maxHeartbeats 4000000 in
theorem packBound_walk (A : Option Addr) (n c : Nat) (b : List UInt8) (win : Int) (w : World) (hb : Rd w (.slice A n c) (bytesV b)) :
    Calls Try.prog 8 #[.slice A n c, .int .i64 win] w (Awake w) := by
  have hbn : b.length = n := by have := hb.len.1; rwa [bytesV_len] at this
  by_cases h1 : 2000 < n
  · have hd1 : decide (2000 < (n : Int)) = true := by simp; omega
    clear hb hbn
    go_enter Try.func8, Try.ntmps8
    go_wp2_with (go_at_call 11; refine (awake_any _).mono ?_; rintro e w9 ⟨rfl, hg9⟩)
    go_ret
    exact ⟨rfl, hg9⟩
  have hd1 : decide (2000 < (n : Int)) = false := by simp; omega
  by_cases h2 : win < 1
  · have hd2 : decide (win < 1) = true := by simpa using h2
    clear hb hbn h1
    go_enter Try.func8, Try.ntmps8
    go_wp2_with (go_at_call 11; refine (awake_any _).mono ?_; rintro e w9 ⟨rfl, hg9⟩)
    go_ret
    exact ⟨rfl, hg9⟩
  have hd2 : decide (win < 1) = false := by simpa using h2
  by_cases h3 : 32768 < win
  · have hd3 : decide (32768 < win) = true := by simpa using h3
    clear hb hbn h1
    go_enter Try.func8, Try.ntmps8
    go_wp2_with (go_at_call 11; refine (awake_any _).mono ?_; rintro e w9 ⟨rfl, hg9⟩)
    go_ret
    exact ⟨rfl, hg9⟩
  have hd3 : decide (32768 < win) = false := by simpa using h3
  have HPA := Lib.hid (pack_any _ b win w hb)
  rw [pack_in b win (by omega) (by omega)] at HPA
  obtain ⟨p1, p2⟩ := pack_len b win (by omega) (by omega)
  generalize packM b win = PX at *
  have hw1 : IntKind.i64.wrap (8 * (n : Int)) = 8 * (n : Int) := by rw [IntKind.wrap_i64]; omega
  have hw2 : IntKind.i64.wrap (8 * (n : Int) + 10) = 8 * (n : Int) + 10 := by rw [IntKind.wrap_i64]; omega
  have hd4 : decide ((PX.length : Int) ≤ 8 * (n : Int) + 10) = true := by rw [decide_eq_true_eq]; omega
  have hd5 : decide (5 ≤ (PX.length : Int)) = true := by rw [decide_eq_true_eq]; omega
  have hd6 : decide (5 ≤ PX.length) = true := by rw [decide_eq_true_eq]; omega
  clear hb p1 p2 hbn
  go_enter Try.func8, Try.ntmps8
  go_wp2_with fail
  refine HPA.out.mono ?_
  rintro e w1 ⟨u1, rfl, hr1, hg1⟩
  have HG1 := Lib.hid hg1
  obtain ⟨A1, c1, rfl⟩ := hr1.form
  simp only [bytesV_len] at hr1 ⊢
  generalize PX.length = m at *
  clear hr1 hg1 HPA
  go_wp2_with (go_at_call 11; refine (awake_any _).mono ?_; rintro e w9 ⟨rfl, hg9⟩)
  go_ret
  exact ⟨rfl, HG1.out.trans hg9⟩
end Go.Proofs.Ytibofgokdjbomaa
