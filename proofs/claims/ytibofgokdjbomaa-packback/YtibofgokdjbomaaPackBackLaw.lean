/-
  The law PackBack, walked.
-/
import Derived.Test.YtibofgokdjbomaaPkAwake
namespace Go.Proofs.Ytibofgokdjbomaa
set_option maxRecDepth 1000000
open Go.RowKit

set_option maxHeartbeats 4000000 in
theorem packBack_walk (A : Option Addr) (n c : Nat) (b : List UInt8) (win : Int) (w : World) (hb : Rd w (.slice A n c) (bytesV b)) :
    Calls Try.prog 4 #[.slice A n c, .int .i64 win] w (Awake w) := by
  have hbn : b.length = n := by have := hb.len.1; rwa [bytesV_len] at this
  by_cases h1 : 2000 < n
  · have hd1 : decide (2000 < (n : Int)) = true := by simp; omega
    clear hb hbn
    go_enter Try.func4, Try.ntmps4
    go_wp2_with (go_at_call 11; refine (awake_any _).mono ?_; rintro e w9 ⟨rfl, hg9⟩)
    go_ret
    exact ⟨rfl, hg9⟩
  have hd1 : decide (2000 < (n : Int)) = false := by simp; omega
  by_cases h2 : win < 1
  · have hd2 : decide (win < 1) = true := by simpa using h2
    clear hb hbn h1
    go_enter Try.func4, Try.ntmps4
    go_wp2_with (go_at_call 11; refine (awake_any _).mono ?_; rintro e w9 ⟨rfl, hg9⟩)
    go_ret
    exact ⟨rfl, hg9⟩
  have hd2 : decide (win < 1) = false := by simpa using h2
  by_cases h3 : 32768 < win
  · have hd3 : decide (32768 < win) = true := by simpa using h3
    clear hb hbn h1
    go_enter Try.func4, Try.ntmps4
    go_wp2_with (go_at_call 11; refine (awake_any _).mono ?_; rintro e w9 ⟨rfl, hg9⟩)
    go_ret
    exact ⟨rfl, hg9⟩
  have hd3 : decide (32768 < win) = false := by simpa using h3
  have HPA := Lib.hid (pack_any _ b win w hb)
  rw [pack_in b win (by omega) (by omega)] at HPA
  have HPL := Lib.hid (pack_len b win (by omega) (by omega)).1
  have HUP := Lib.hid (fun v W (h : Rd W v (bytesV (packM b win))) => unpack_any v (packM b win) W h (by have := HPL.out; omega))
  rw [unpack_pack b win (by omega) (by omega)] at HUP
  have HB := Lib.hid hb
  generalize packM b win = PX at *
  clear hb
  go_enter Try.func4, Try.ntmps4
  go_wp2_with fail
  refine HPA.out.mono ?_
  rintro e w1 ⟨u1, rfl, hr1, hg1⟩
  have HU := Lib.hid (HUP.out u1 w1 hr1)
  have HG1 := Lib.hid hg1
  clear hr1 hg1 HPA HUP
  go_wp2_with fail
  refine HU.out.mono ?_
  rintro e w2 ⟨u2, rfl, hr2, hg2⟩
  have HG2 := Lib.hid (HG1.out.trans hg2)
  have s0 := run_str (HB.out.grown0 HG2.out)
  obtain ⟨A2, c2, rfl⟩ := hr2.form
  have s2 := run_str hr2
  simp only [bytesV_len] at s2 ⊢
  clear hr2 hg2 HU
  rw [hbn] at s2 ⊢
  go_wp2_with (go_at_call 11; refine (awake_any _).mono ?_; rintro e w9 ⟨rfl, hg9⟩)
  go_ret
  exact ⟨rfl, HG2.out.trans hg9⟩
end Go.Proofs.Ytibofgokdjbomaa
