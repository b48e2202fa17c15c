/-
  The law PackWindows, walked.
-/
import Derived.Test.YtibofgokdjbomaaPkAwake
namespace Go.Proofs.Ytibofgokdjbomaa
set_option maxRecDepth 1000000
open Go.RowKit

set_option maxHeartbeats 8000000 in
theorem packWindows_walk (A : Option Addr) (n c : Nat) (b : List UInt8) (one other : Int) (w : World) (hb : Rd w (.slice A n c) (bytesV b)) :
    Calls Try.prog 9 #[.slice A n c, .int .i64 one, .int .i64 other] w (Awake w) := by
  have hbn : b.length = n := by have := hb.len.1; rwa [bytesV_len] at this
  by_cases h1 : 1000 < n
  · have hd1 : decide (1000 < (n : Int)) = true := by simp; omega
    clear hb hbn
    go_enter Try.func9, Try.ntmps9
    go_wp2_with (go_at_call 11; refine (awake_any _).mono ?_; rintro e w9 ⟨rfl, hg9⟩)
    go_ret
    exact ⟨rfl, hg9⟩
  have hd1 : decide (1000 < (n : Int)) = false := by simp; omega
  have HP1 := Lib.hid (pack_any _ b one w hb)
  have HP2 := Lib.hid (fun W (h : Rd W (.slice A n c) (bytesV b)) => pack_any _ b other W h)
  have HB := Lib.hid hb
  by_cases h2 : 1 ≤ one ∧ one ≤ 32768
  · rw [pack_in b one (by omega) h2] at HP1
    have HL1 := Lib.hid (pack_len b one (by omega) h2).1
    have HU1 := Lib.hid (fun v W (h : Rd W v (bytesV (packM b one))) => unpack_any v (packM b one) W h (by have := HL1.out; omega))
    rw [unpack_pack b one (by omega) h2] at HU1
    generalize packM b one = P1 at *
    by_cases h3 : 1 ≤ other ∧ other ≤ 32768
    · rw [pack_in b other (by omega) h3] at HP2
      have HL2 := Lib.hid (pack_len b other (by omega) h3).1
      have HU2 := Lib.hid (fun v W (h : Rd W v (bytesV (packM b other))) => unpack_any v (packM b other) W h (by have := HL2.out; omega))
      rw [unpack_pack b other (by omega) h3] at HU2
      generalize packM b other = P2 at *
      clear hb h2 h3
      go_enter Try.func9, Try.ntmps9
      go_wp2_with fail
      refine HP1.out.mono ?_
      rintro e w1 ⟨u1, rfl, hr1, hg1⟩
      have H1 := Lib.hid (And.intro hr1 hg1)
      clear hr1 hg1 HP1
      go_wp2_with fail
      refine (HP2.out w1 (HB.out.grown0 H1.out.2)).mono ?_
      rintro e w2 ⟨u2, rfl, hr2, hg2⟩
      have H2 := Lib.hid (show Rd w2 u1 (bytesV P1) ∧ Rd w2 u2 (bytesV P2) ∧ w.grownBy w2 none from ⟨H1.out.1.grown0 hg2, hr2, H1.out.2.trans hg2⟩)
      clear hr2 hg2 HP2 H1
      go_wp2_with fail
      refine (HU1.out u1 w2 H2.out.1).mono ?_
      rintro e w3 ⟨u3, rfl, hr3, hg3⟩
      have H3 := Lib.hid (show Rd w3 u2 (bytesV P2) ∧ Rd w3 u3 (bytesV b) ∧ w.grownBy w3 none from ⟨H2.out.2.1.grown0 hg3, hr3, H2.out.2.2.trans hg3⟩)
      clear hr3 hg3 HU1 H2
      go_wp2_with fail
      refine (HU2.out u2 w3 H3.out.1).mono ?_
      rintro e w4 ⟨u4, rfl, hr4, hg4⟩
      have HG4 := Lib.hid (H3.out.2.2.trans hg4)
      have s0 := run_str (HB.out.grown0 HG4.out)
      have hr3 := H3.out.2.1.grown0 hg4
      obtain ⟨A3, c3, rfl⟩ := hr3.form
      obtain ⟨A4, c4, rfl⟩ := hr4.form
      have s3 := run_str hr3
      have s4 := run_str hr4
      simp only [bytesV_len] at s3 s4 ⊢
      rw [hbn] at s3 s4 ⊢
      clear hr4 hg4 hr3 HU2 H3
      go_wp2_with (go_at_call 11; refine (awake_any _).mono ?_; rintro e w9 ⟨rfl, hg9⟩)
      go_ret
      exact ⟨rfl, HG4.out.trans hg9⟩
    · have hq : packR b other = ([], 1) := by unfold packR; rw [if_pos (by omega)]
      rw [hq] at HP2
      clear hb h2 h3 hq
      go_enter Try.func9, Try.ntmps9
      go_wp2_with fail
      refine HP1.out.mono ?_
      rintro e w1 ⟨u1, rfl, hr1, hg1⟩
      have H1 := Lib.hid (And.intro hr1 hg1)
      clear hr1 hg1 HP1
      go_wp2_with fail
      refine (HP2.out w1 (HB.out.grown0 H1.out.2)).mono ?_
      rintro e w2 ⟨u2, rfl, hr2, hg2⟩
      have HG2 := Lib.hid (H1.out.2.trans hg2)
      clear hr2 hg2 HP2 H1
      go_wp2_with (go_at_call 11; refine (awake_any _).mono ?_; rintro e w9 ⟨rfl, hg9⟩)
      go_ret
      exact ⟨rfl, HG2.out.trans hg9⟩
  · have hq : packR b one = ([], 1) := by unfold packR; rw [if_pos (by omega)]
    rw [hq] at HP1
    obtain ⟨z, hz⟩ : ∃ z, packR b other = z := ⟨_, rfl⟩
    rw [hz] at HP2
    clear hb h2 hq hz
    go_enter Try.func9, Try.ntmps9
    go_wp2_with fail
    refine HP1.out.mono ?_
    rintro e w1 ⟨u1, rfl, hr1, hg1⟩
    have H1 := Lib.hid (And.intro hr1 hg1)
    clear hr1 hg1 HP1
    go_wp2_with fail
    refine (HP2.out w1 (HB.out.grown0 H1.out.2)).mono ?_
    rintro e w2 ⟨u2, rfl, hr2, hg2⟩
    have HG2 := Lib.hid (H1.out.2.trans hg2)
    clear hr2 hg2 HP2 H1
    go_wp2_with (go_at_call 11; refine (awake_any _).mono ?_; rintro e w9 ⟨rfl, hg9⟩)
    go_ret
    exact ⟨rfl, HG2.out.trans hg9⟩
end Go.Proofs.Ytibofgokdjbomaa
