/-
  The law RingPuts, walked.
-/
import Derived.Test.YtnbeakpmglefmaaRngOps
namespace Go.Proofs.Ytnbeakpmglefmaa
open Go.RowKit

theorem out_in (R : Nat) (l : List Int) (k : Nat) (hk : k < l.length) : outIn 0 R (l.take k) l[k] = if h : k < R then (0, false) else (l[k - R]'(by omega), true) := by
  have h1 : (l.take k).length = k := by rw [List.length_take]; omega
  unfold outIn
  rw [h1, take_next l k hk]
  by_cases h : k < R
  · rw [if_pos h, dif_pos h]
  · rw [if_neg h, dif_neg h, List.getD_eq_getElem?_getD, List.getElem?_take, if_pos (by omega), List.getElem?_eq_getElem (by omega)]
    rfl

set_option maxHeartbeats 8000000 in
theorem ringPuts_walk (r : Int) (A : Option Addr) (n c : Nat) (l : List Int) (w : World) (hr : Rd w (.slice A n c) (RingI.rowV l)) :
    Calls Try.prog 3 #[.int .i64 r, .slice A n c] w (Awake w) := by
  have hl : l.length = n := by have := hr.len.1; rwa [RingI.rowV_len] at this
  have HN := Lib.hid (RingI.new_any r w)
  go_enter Try.func3, Try.ntmps3
  go_wp2_with fail
  refine HN.out.mono ?_
  clear HN
  rintro e w1 (⟨R, g, rfl, hR, rfl, hr1, hge, hg1⟩ | ⟨hbad, rfl, rfl⟩)
  case inr =>
    clear hr hl
    have hd2 : decide (r < 0) = true ∨ (decide (r < 0) = false ∧ decide (65536 < r) = true) := by simp; omega
    clear hbad
    rcases hd2 with hd2 | ⟨hd2, hd3⟩
    · go_wp2_with (go_at_call 11; refine (awake_any _).mono ?_; rintro e w5 ⟨rfl, hg5⟩)
      go_ret
      exact ⟨rfl, hg5⟩
    · go_wp2_with (go_at_call 11; refine (awake_any _).mono ?_; rintro e w5 ⟨rfl, hg5⟩)
      go_ret
      exact ⟨rfl, hg5⟩
  have HRG := Lib.hid hr1
  have HG := Lib.hid (And.intro hge hg1)
  have HRD := Lib.hid hr
  have HL := Lib.hid hl
  clear hr1 hge hg1 hr hl
  by_cases hm : 200 < n
  · have hdec : decide (200 < (n : Int)) = true := by simp; omega
    clear hm
    have hd2 : decide ((R : Int) < 0) = false := by simp
    have hd3 : decide (65536 < R) = false := by simp; omega
    have hd4 : decide (65536 < (R : Int)) = false := by simp; omega
    go_wp2_with (go_at_call 11; refine (awake_any _).mono ?_; rintro e w5 ⟨rfl, hg5⟩)
    go_ret
    exact ⟨rfl, HG.out.2.trans hg5⟩
  have hdec : decide (200 < (n : Int)) = false := by simp; omega
  have hn : n ≤ 200 := by omega
  clear hm
  go_wp2
  go_loopw [40] (fun i W => ∃ (k : Nat) (vb : Option Nat), k ≤ n ∧ i = .int .i64 k ∧ RingI.Ring W g vb R (l.take k) ∧ Went w1 g none W vb) (fun i _ => n - (intOf i).toNat)
  case atStart => exact ⟨0, _, Nat.zero_le _, rfl, by simpa using HRG.out, Went.refl _ _ _⟩
  case round =>
  obtain ⟨k, vb, hk, rfl, hring, hwent⟩ := hrel
  have hgw : w.grownBy wr none := hwent.new HG.out.2 HG.out.1 (fun b e => by cases e)
  by_cases hlt : k < n
  · have hkl : k < l.length := by rw [HL.out]; exact hlt
    obtain ⟨ad, rfl, hcell⟩ := num_at (HRD.out.grown0 hgw) hkl
    have HP := Lib.hid (put_next g vb R l k hkl wr hring hR (by rw [HL.out]; omega))
    rw [out_in R l k hkl] at HP
    have HT := Lib.hid (show (l.take (k + 1)).length = k + 1 by rw [List.length_take]; omega)
    have HWT := Lib.hid hwent
    clear hring hwent hgw hk
    by_cases hkR : k < R
    · rw [dif_pos hkR] at HP
      have hd2 : decide (R ≤ k) = false := by simp; omega
      have hmn : min (k + 1) R = k + 1 := by omega
      go_wp2_with fail
      refine HP.out.mono ?_
      clear HP
      rintro e w2 ⟨vb2, rfl, hr2, hw2⟩
      simp only [RingI.pairV]
      have HLN := Lib.hid (Calls.seen (RingI.len_at g vb2 R (l.take (k + 1)) w2 hr2))
      have HMN := Lib.hid (fun W (h : w2.grownBy W none) => Calls.seen (RingI.many_at g vb2 R (l.take (k + 1)) W (hr2.grown0 h)))
      rw [HT.out, hmn, show ((k + 1 : Nat) : Int) = (k : Int) + 1 by omega] at HLN
      rw [HT.out, show ((k + 1 : Nat) : Int) = (k : Int) + 1 by omega] at HMN
      have HR2 := Lib.hid hr2
      have HW2 := Lib.hid hw2
      clear hr2 hw2
      go_wp2_with fail
      refine HLN.out.mono ?_
      clear HLN
      rintro e w3 ⟨rfl, hg3⟩
      go_wp2_with fail
      refine (HMN.out _ hg3).mono ?_
      clear HMN
      rintro e w4 ⟨rfl, hg4⟩
      go_wp2
      go_roundw
      case rel => exact ⟨k + 1, vb2, by omega, rfl, HR2.out.grown0 (hg3.trans hg4), (HWT.out.trans HW2.out).grown (hg3.trans hg4)⟩
      case measure => simp only [intOf]; omega
    · rw [dif_neg hkR] at HP
      have hd2 : decide (R ≤ k) = true := by simp; omega
      have hmn : min (k + 1) R = R := by omega
      have hkRl : k - R < l.length := by omega
      have hpp : (k : Int) - (R : Int) = ((k - R : Nat) : Int) := by omega
      have hpx : k - R < n := by omega
      go_wp2_with fail
      refine HP.out.mono ?_
      clear HP
      rintro e w2 ⟨vb2, rfl, hr2, hw2⟩
      simp only [RingI.pairV]
      have HLN := Lib.hid (Calls.seen (RingI.len_at g vb2 R (l.take (k + 1)) w2 hr2))
      have HMN := Lib.hid (fun W (h : w2.grownBy W none) => Calls.seen (RingI.many_at g vb2 R (l.take (k + 1)) W (hr2.grown0 h)))
      rw [HT.out, hmn] at HLN
      rw [HT.out, show ((k + 1 : Nat) : Int) = (k : Int) + 1 by omega] at HMN
      have hc2 : w2.cell? (ad.add (k - R)) = some (.int .i64 (l[k - R]'hkRl)) := by
        obtain ⟨ad', e1, e2⟩ := num_at (HRD.out.grown0 ((HWT.out.trans hw2).new HG.out.2 HG.out.1 (fun b e => by cases e))) hkRl
        injection e1 with e1
        subst e1
        exact e2
      have HR2 := Lib.hid hr2
      have HW2 := Lib.hid hw2
      clear hr2 hw2
      generalize l[k - R]'hkRl = z at *
      go_wp2_with fail
      refine HLN.out.mono ?_
      clear HLN
      rintro e w3 ⟨rfl, hg3⟩
      go_wp2_with fail
      refine (HMN.out _ hg3).mono ?_
      clear HMN
      rintro e w4 ⟨rfl, hg4⟩
      go_wp2
      go_roundw
      case rel => exact ⟨k + 1, vb2, by omega, rfl, HR2.out.grown0 (hg3.trans hg4), (HWT.out.trans HW2.out).grown (hg3.trans hg4)⟩
      case measure => simp only [intOf]; omega
  obtain rfl : k = n := by omega
  rw [List.take_of_length_le (by rw [HL.out]; exact Nat.le_refl _)] at hring
  have HA := Lib.hid (fun (age : Int) W (h : wr.grownBy W none) => Calls.seen (RingI.at_at g vb R l age W (hring.grown0 h) hR (by rw [HL.out]; omega)))
  have HB := Lib.hid (fun (age : Int) W (h : wr.grownBy W none) => ref_at A k c l R age W (HRD.out.grown0 (hgw.trans h)) (by omega) hR)
  have HO := Lib.hid (fun W (h : wr.grownBy W none) => Calls.seen (RingI.room_at g vb R l W (hring.grown0 h)))
  have HGW := Lib.hid hgw
  simp only [RingI.pairV] at HA HB
  clear hring hwent hgw hk hlt
  go_wp2
  go_loopw [12] (fun v W => ∃ age : Int, v = .int .i64 age ∧ -2 ≤ age ∧ age ≤ (k : Int) + 2 ∧ wr.grownBy W none) (fun v _ => ((k : Int) + 2 - intOf v).toNat)
  case atStart => exact ⟨-2, rfl, by omega, by omega, grown_refl _ _⟩
  case round =>
  obtain ⟨age, rfl, ha1, ha2, hgr⟩ := hrel
  rename_i wr2
  by_cases hlt : age < (k : Int) + 2
  · have HA1 := Lib.hid (HA.out age _ hgr)
    have HB1 := Lib.hid (fun W h => HB.out age W (hgr.trans h))
    generalize agedIn 0 R l age = p at *
    obtain ⟨p1, p2⟩ := p
    have HGR := Lib.hid hgr
    clear hgr HA HB HO
    go_wp2_with fail
    refine HA1.out.mono ?_
    rintro e w3 ⟨rfl, hg3⟩
    go_wp2_with fail
    refine (HB1.out _ hg3).mono ?_
    rintro e w4 ⟨rfl, hg4⟩
    clear HA1 HB1
    go_wp2
    go_roundw
    case rel => exact ⟨age + 1, rfl, by omega, by omega, (HGR.out.trans hg3).trans hg4⟩
    case measure => simp only [intOf]; omega
  · have HO1 := Lib.hid (HO.out _ hgr)
    have HGR := Lib.hid hgr
    clear hgr HA HB HO
    go_wp2_with fail
    refine HO1.out.mono ?_
    clear HO1
    rintro e w3 ⟨rfl, hg3⟩
    go_wp2_with (go_at_call 11; refine (awake_any _).mono ?_; rintro e w5 ⟨rfl, hg5⟩)
    go_ret
    exact ⟨rfl, ((HGW.out.trans HGR.out).trans hg3).trans hg5⟩
end Go.Proofs.Ytnbeakpmglefmaa
