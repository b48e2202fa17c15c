/-
  The law RingAges, walked.
-/
import Derived.Test.YtnbeakpmglefmaaRngOps
namespace Go.Proofs.Ytnbeakpmglefmaa
open Go.RowKit

set_option maxHeartbeats 8000000 in
theorem ringAges_walk (r : Int) (A : Option Addr) (n c : Nat) (l : List Int) (x : Int) (w : World) (hr : Rd w (.slice A n c) (RingI.rowV l)) :
    Calls Try.prog 4 #[.int .i64 r, .slice A n c, .int .i64 x] w (Awake w) := by
  have hl : l.length = n := by have := hr.len.1; rwa [RingI.rowV_len] at this
  have HN := Lib.hid (RingI.new_any r w)
  go_enter Try.func4, Try.ntmps4
  go_wp2_with fail
  refine HN.out.mono ?_
  clear HN
  rintro e w1 (⟨R, g, rfl, hR, rfl, hr1, hge, hg1⟩ | ⟨hbad, rfl, rfl⟩)
  case inr =>
    clear hr hl
    go_wp2_with (go_at_call 11; refine (awake_any _).mono ?_; rintro e w5 ⟨rfl, hg5⟩)
    go_ret
    exact ⟨rfl, hg5⟩
  have HRG := Lib.hid hr1
  have HG := Lib.hid (And.intro hge hg1)
  have HRD := Lib.hid hr
  have HL := Lib.hid hl
  clear hr1 hge hg1 hr hl
  by_cases hm : 200 < n
  · have hdec : decide (200 < (n : Int)) = true := by simp; omega
    clear hm
    go_wp2_with (go_at_call 11; refine (awake_any _).mono ?_; rintro e w5 ⟨rfl, hg5⟩)
    go_ret
    exact ⟨rfl, HG.out.2.trans hg5⟩
  have hdec : decide (200 < (n : Int)) = false := by simp; omega
  have hn : n ≤ 200 := by omega
  clear hm
  go_wp2
  go_loopw [26] (fun i W => ∃ (k : Nat) (vb : Option Nat), k ≤ n ∧ i = .int .i64 k ∧ RingI.Ring W g vb R (l.take k) ∧ Went w1 g none W vb) (fun i _ => n - (intOf i).toNat)
  case atStart => exact ⟨0, _, Nat.zero_le _, rfl, by simpa using HRG.out, Went.refl _ _ _⟩
  case round =>
  obtain ⟨k, vb, hk, rfl, hring, hwent⟩ := hrel
  have hgw : w.grownBy wr none := hwent.new HG.out.2 HG.out.1 (fun b e => by cases e)
  by_cases hlt : k < n
  · have hkl : k < l.length := by rw [HL.out]; exact hlt
    obtain ⟨ad, rfl, hcell⟩ := num_at (HRD.out.grown0 hgw) hkl
    have HP := Lib.hid (RingI.put_at g vb R (l.take k) l[k] wr hring hR (by simp; omega))
    have HWT := Lib.hid hwent
    clear hring hwent hgw hk
    go_wp2_with fail
    refine HP.out.mono ?_
    clear HP
    rintro e w2 ⟨vb2, rfl, hr2, hw2⟩
    rw [take_next _ _ hkl] at hr2
    go_wp2
    go_roundw
    case rel => exact ⟨k + 1, vb2, by omega, rfl, hr2, HWT.out.trans hw2⟩
    case measure => simp only [intOf]; omega
  obtain rfl : k = n := by omega
  rw [List.take_of_length_le (by rw [HL.out]; exact Nat.le_refl _)] at hring
  have HA := Lib.hid (Calls.seen (RingI.at_at g vb R l x wr hring hR (by rw [HL.out]; omega)))
  have HGW := Lib.hid hgw
  clear hring hwent hgw hk hlt
  have HB := Lib.hid (fun W (h : w.grownBy W none) => ref_at A k c l R x W (HRD.out.grown0 h) (by omega) hR)
  generalize agedIn 0 R l x = p at *
  simp only [RingI.pairV] at HA HB
  go_wp2_with fail
  refine HA.out.mono ?_
  rintro e w3 ⟨rfl, hg3⟩
  go_wp2_with fail
  refine (HB.out _ (HGW.out.trans hg3)).mono ?_
  rintro e w4 ⟨rfl, hg4⟩
  obtain ⟨p1, p2⟩ := p
  go_wp2_with (go_at_call 11; refine (awake_any _).mono ?_; rintro e w5 ⟨rfl, hg5⟩)
  go_ret
  exact ⟨rfl, ((HGW.out.trans hg3).trans hg4).trans hg5⟩
end Go.Proofs.Ytnbeakpmglefmaa
