/-
  The law MatchBack, walked.
-/
import Derived.Test.YtbpnkcjaekbcdaaMatchAwake
import Derived.Test.YtbpnkcjaekbcdaaLzBack
import Derived.Test.YtbpnkcjaekbcdaaBytOps
namespace Go.Proofs.Ytbpnkcjaekbcdaa
open Go.RowKit

set_option maxHeartbeats 4000000 in
theorem matchBack_walk (A : Option Addr) (n c : Nat) (b : List UInt8) (win : Int) (w : World) (hb : Rd w (.slice A n c) (bytesV b)) :
    Calls Try.prog 5 #[.slice A n c, .int .i64 win] w (Awake w) := by
  have hbn : b.length = n := by have := hb.len.1; rwa [bytesV_len] at this
  by_cases h1 : 3000 < n
  · have hd1 : decide (3000 < (n : Int)) = true := by simp; omega
    clear hb hbn
    go_enter Try.func5, Try.ntmps5
    go_wp2_with (go_at_call 9; refine (awake_any _).mono ?_; rintro e w9 ⟨rfl, hg9⟩)
    go_ret
    exact ⟨rfl, hg9⟩
  have hd1 : decide (3000 < (n : Int)) = false := by simp; omega
  by_cases h2 : win < 1
  · have hd2 : decide (win < 1) = true := by simpa using h2
    clear hb hbn h1
    go_enter Try.func5, Try.ntmps5
    go_wp2_with (go_at_call 9; refine (awake_any _).mono ?_; rintro e w9 ⟨rfl, hg9⟩)
    go_ret
    exact ⟨rfl, hg9⟩
  have hd2 : decide (win < 1) = false := by simpa using h2
  by_cases h3 : 32768 < win
  · have hd3 : decide (32768 < win) = true := by simpa using h3
    clear hb hbn h1
    go_enter Try.func5, Try.ntmps5
    go_wp2_with (go_at_call 9; refine (awake_any _).mono ?_; rintro e w9 ⟨rfl, hg9⟩)
    go_ret
    exact ⟨rfl, hg9⟩
  have hd3 : decide (32768 < win) = false := by simpa using h3
  obtain ⟨hback, hright⟩ := parse_back b win (by omega) (by omega)
  have HPA := Lib.hid (parse_any _ b win w hb (by omega))
  have hsz := expandFrom_ok (parse b win) [] (by show (expand (parse b win)).2 = 0; rw [hback])
  rw [show expandFrom [] (parse b win) = expand (parse b win) from rfl, hback] at hsz
  have hpl : (parse b win).length ≤ b.length := by
    have h : ∀ f p, p ≤ b.length → (parseFrom b win.toNat f p).length + p ≤ b.length := by
      intro f
      induction f with
      | zero => intro p hp; simp [parseFrom]; exact hp
      | succ f ih =>
        intro p hp
        rw [parseFrom]
        split
        · rename_i hlt
          obtain ⟨m, e1, e2, e3⟩ := tokAt_bound b win.toNat p hlt
          have := ih (p + m) e3
          rw [e1, Int.toNat_natCast, List.length_cons]
          omega
        · simp; exact hp
    have := h b.length 0 (Nat.zero_le _)
    rw [parse, if_pos (by omega)]
    omega
  have HEX := Lib.hid (fun (v : Value) (W : World) (h : RdT W v (parse b win)) => expand_any (parse b win) v W h (by omega))
  have HSI := Lib.hid (fun (v : Value) (W : World) (h : RdT W v (parse b win)) => sizes_any (parse b win) v W h (by omega))
  have HBK := Lib.hid hback
  have hse : sizes (parse b win) = (n : Int) := by rw [← hbn]; simpa using hsz.symm
  rw [hse] at HSI
  have HRI := Lib.hid hright
  have HB := Lib.hid hb
  have HPL := Lib.hid (show (parse b win).length ≤ 3000 by omega)
  clear hback hright hsz hse hb hpl hbn
  generalize parse b win = l at *
  go_enter Try.func5, Try.ntmps5
  go_wp2_with fail
  refine HPA.out.mono ?_
  rintro e w1 ⟨v1, rfl, hr1, hg1⟩
  obtain ⟨A1, c1, rfl⟩ := hr1.form
  have HR1 := Lib.hid hr1
  have HG1 := Lib.hid hg1
  obtain ⟨m, hm⟩ : ∃ m, l.length = m := ⟨_, rfl⟩
  have HM := Lib.hid hm
  rw [hm] at HR1 HPL ⊢
  clear hr1 hg1 HPA hm
  go_wp2
  have hmm := HPL.out
  go_loopw [27] (fun i W => ∃ k : Nat, k ≤ m ∧ i = .int .i64 k ∧ w1.grownBy W none) (fun i _ => m - (intOf i).toNat)
  case atStart => exact ⟨0, Nat.zero_le _, rfl, grown_refl _ _⟩
  case round =>
    obtain ⟨k, hk, rfl, hg⟩ := hrel
    by_cases hlt : k < m
    · have hkl : k < l.length := by rw [HM.out]; exact hlt
      obtain ⟨ad, t, rfl, ht, c0, c1', c2⟩ := (HR1.out.grown0 hg).tok hkl
      have hrt := HRI.out t (by rw [← ht]; exact List.getElem_mem hkl)
      have HRT := Lib.hid (fun w => right_any t w)
      rw [hrt.1] at HRT
      have hbk : decide (win < t.back) = false := by simp; omega
      have HG := Lib.hid hg
      have RN := Lib.hid (Row.new wr 38 (tokC t))
      have HGA := Lib.hid (grown_alloc (grown_refl wr none) (.cells (tokC t).toArray 38))
      clear hg hrt ht
      go_wp2_with fail
      refine (HRT.out _).mono ?_
      rintro e w2 ⟨rfl, hg2⟩
      have R2 := RN.out.grown0 hg2
      have d2 := R2.cell (j := 2) rfl
      have HG2 := Lib.hid ((HG.out.trans HGA.out).trans hg2)
      clear hg2 R2 c0 c1' c2
      go_wp2
      go_roundw
      case rel => exact ⟨k + 1, by omega, rfl, HG2.out⟩
      case measure => simp only [intOf]; omega
    · have hkn : k = m := by omega
      subst hkn
      have HE2 := Lib.hid (HEX.out _ wr (HR1.out.grown0 hg))
      have HG := Lib.hid (HG1.out.trans hg)
      have HRX := Lib.hid (HR1.out.grown0 hg)
      clear hg HEX
      go_wp2_with fail
      refine HE2.out.mono ?_
      rintro e w2 ⟨v2, he, hr2, hg2⟩
      rw [HBK.out] at he hr2
      have he : e = .returned (.tuple #[v2, .int .i64 0]) := he
      subst he
      have hr2 : Rd w2 v2 (bytesV b) := hr2
      obtain ⟨A2, c2, rfl⟩ := hr2.form
      have hs1 := run_str hr2
      have hs2 := run_str (HB.out.grown0 (HG.out.trans hg2))
      have HSZ := Lib.hid (HSI.out _ w2 (HRX.out.grown0 hg2))
      have HG2 := Lib.hid (HG.out.trans hg2)
      clear hr2 hg2 HE2
      go_wp2_with fail
      refine HSZ.out.mono ?_
      rintro e w3 ⟨rfl, hg3⟩
      clear hs1 hs2
      go_wp2_with (go_at_call 9; refine (awake_any _).mono ?_; rintro e w9 ⟨rfl, hg9⟩)
      go_ret
      exact ⟨rfl, (HG2.out.trans hg3).trans hg9⟩
end Go.Proofs.Ytbpnkcjaekbcdaa
