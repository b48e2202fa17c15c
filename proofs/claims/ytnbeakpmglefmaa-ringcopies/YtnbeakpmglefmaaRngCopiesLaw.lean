/-
  The law RingCopies, walked.
-/
import Derived.Test.YtnbeakpmglefmaaRngOps
import Derived.Test.YtnbeakpmglefmaaRngICopy
namespace Go.Proofs.Ytnbeakpmglefmaa
open Go.RowKit

set_option maxHeartbeats 8000000 in
theorem ringCopies_walk (r : Int) (A : Option Addr) (n c : Nat) (l : List Int) (A2 : Option Addr) (n2 c2 : Nat) (l2 : List Int) (w : World) (hr : Rd w (.slice A n c) (RingI.rowV l)) (hrb : Rd w (.slice A2 n2 c2) (RingI.rowV l2)) :
    Calls Try.prog 6 #[.int .i64 r, .slice A n c, .slice A2 n2 c2] w (Awake w) := by
  have hl : l.length = n := by have := hr.len.1; rwa [RingI.rowV_len] at this
  have HLB := Lib.hid (show l2.length = n2 by have := hrb.len.1; rwa [RingI.rowV_len] at this)
  have HRB := Lib.hid hrb
  clear hrb
  have HN := Lib.hid (RingI.new_any r w)
  go_enter Try.func6, Try.ntmps6
  go_wp2_with fail
  refine HN.out.mono ?_
  clear HN
  rintro e w1 (⟨R, g, rfl, hR, rfl, hr1, hge, hg1⟩ | ⟨hbad, rfl, rfl⟩)
  case inr =>
    clear hr hl
    go_wp2_with (go_at_call 11; refine (awake_any _).mono ?_; rintro e w5 ⟨rfl, hg5⟩)
    go_ret
    exact ⟨rfl, hg5⟩
  have HRG := Lib.hid hr1
  have HG := Lib.hid (And.intro hge hg1)
  have HRD := Lib.hid hr
  have HL := Lib.hid hl
  clear hr1 hge hg1 hr hl
  by_cases hm : 200 < n
  · have hdec : decide (200 < (n : Int)) = true := by simp; omega
    clear hm
    go_wp2_with (go_at_call 11; refine (awake_any _).mono ?_; rintro e w5 ⟨rfl, hg5⟩)
    go_ret
    exact ⟨rfl, HG.out.2.trans hg5⟩
  have hdec : decide (200 < (n : Int)) = false := by simp; omega
  have hn : n ≤ 200 := by omega
  clear hm
  by_cases hm : 200 < n2
  · have hdec2 : decide (200 < (n2 : Int)) = true := by simp; omega
    clear hm
    go_wp2_with (go_at_call 11; refine (awake_any _).mono ?_; rintro e w5 ⟨rfl, hg5⟩)
    go_ret
    exact ⟨rfl, HG.out.2.trans hg5⟩
  have hdec2 : decide (200 < (n2 : Int)) = false := by simp; omega
  have hn2 : n2 ≤ 200 := by omega
  clear hm
  go_wp2
  go_loopw [35] (fun i W => ∃ (k : Nat) (vb : Option Nat), k ≤ n ∧ i = .int .i64 k ∧ RingI.Ring W g vb R (l.take k) ∧ Went w1 g none W vb) (fun i _ => n - (intOf i).toNat)
  case atStart => exact ⟨0, _, Nat.zero_le _, rfl, by simpa using HRG.out, Went.refl _ _ _⟩
  case round =>
  obtain ⟨k, vb, hk, rfl, hring, hwent⟩ := hrel
  have hgw : w.grownBy wr none := hwent.new HG.out.2 HG.out.1 (fun b e => by cases e)
  by_cases hlt : k < n
  · have hkl : k < l.length := by rw [HL.out]; exact hlt
    obtain ⟨ad, rfl, hcell⟩ := num_at (HRD.out.grown0 hgw) hkl
    have HP := Lib.hid (RingI.put_at g vb R (l.take k) l[k] wr hring hR (by simp; omega))
    have HWT := Lib.hid hwent
    clear hring hwent hgw hk
    go_wp2_with fail
    refine HP.out.mono ?_
    clear HP
    rintro e w2 ⟨vb2, rfl, hr2, hw2⟩
    rw [take_next _ _ hkl] at hr2
    go_wp2
    go_roundw
    case rel => exact ⟨k + 1, vb2, by omega, rfl, hr2, HWT.out.trans hw2⟩
    case measure => simp only [intOf]; omega
  obtain rfl : k = n := by omega
  rw [List.take_of_length_le (by rw [HL.out]; exact Nat.le_refl _)] at hring
  have HC := Lib.hid (RingI.copy_at g vb R l wr hring (by rw [HL.out]; omega))
  have HVB := Lib.hid (show ∀ b, vb = some b → w.heap.size ≤ b from by
    rintro b rfl
    rcases hwent.row with e | ⟨b', e, hb⟩
    · cases e
    · cases e; exact Nat.le_trans HG.out.2.size hb)
  have HLT := Lib.hid (And.intro hring.lt hring.row_lt)
  have HRI := Lib.hid hring
  have HGW := Lib.hid hgw
  clear hring hwent hgw hk hlt
  go_wp2_with fail
  refine HC.out.mono ?_
  clear HC
  rintro e w2 ⟨gc, vc, rfl, hrc, hg2, hgc, hvc⟩
  have HR2 := Lib.hid (HRI.out.grown0 hg2)
  have HG2 := Lib.hid (show w.grownBy w2 none ∧ w.heap.size ≤ g ∧ ∀ b, vb = some b → w.heap.size ≤ b from ⟨HGW.out.trans hg2, HG.out.1, HVB.out⟩)
  have HRC := Lib.hid (show ∀ W vb2, Went w2 g vb W vb2 → RingI.Ring W gc vc R l from fun W vb2 hw => hrc.went hw ⟨fun e => by have := HLT.out.1; omega, fun e => by have := HLT.out.2 gc e.symm; omega⟩ (fun b hb => ⟨fun e => by have := hvc b hb; have := HLT.out.1; omega, fun e => by have := hvc b hb; have := HLT.out.2 b e.symm; omega⟩))
  clear hrc hg2 hgc hvc HRI HGW HVB HLT
  go_wp2
  go_loopw [47] (fun i W => ∃ (j : Nat) (ub : Option Nat), j ≤ n2 ∧ i = .int .i64 j ∧ RingI.Ring W g ub R (l ++ l2.take j) ∧ Went w2 g vb W ub) (fun i _ => n2 - (intOf i).toNat)
  case atStart => exact ⟨0, _, Nat.zero_le _, rfl, by simpa using HR2.out, Went.refl _ _ _⟩
  case round =>
  obtain ⟨j, ub, hk, rfl, hring, hwent⟩ := hrel
  have hgw : w.grownBy wr none := hwent.new HG2.out.1 HG2.out.2.1 HG2.out.2.2
  by_cases hlt : j < n2
  · have hkl : j < l2.length := by rw [HLB.out]; exact hlt
    obtain ⟨ad, rfl, hcell⟩ := num_at (HRB.out.grown0 hgw) hkl
    have HP := Lib.hid (RingI.put_at g ub R (l ++ l2.take j) l2[j] wr hring hR (by have := HL.out; simp; omega))
    have HWT := Lib.hid hwent
    clear hring hwent hgw hk
    go_wp2_with fail
    refine HP.out.mono ?_
    clear HP
    rintro e w3 ⟨vb2, rfl, hr2, hw2⟩
    rw [List.append_assoc, take_next _ _ hkl] at hr2
    go_wp2
    go_roundw
    case rel => exact ⟨j + 1, vb2, by omega, rfl, hr2, HWT.out.trans hw2⟩
    case measure => simp only [intOf]; omega
  obtain rfl : j = n2 := by omega
  have HRC1 := Lib.hid (HRC.out _ _ hwent)
  have HGW := Lib.hid hgw
  clear hring hwent hgw hk hlt HRC
  have HA := Lib.hid (fun (age : Int) W (h : wr.grownBy W none) => Calls.seen (RingI.at_at gc vc R l age W (HRC1.out.grown0 h) hR (by rw [HL.out]; omega)))
  have HB := Lib.hid (fun (age : Int) W (h : wr.grownBy W none) => ref_at A k c l R age W (HRD.out.grown0 (HGW.out.trans h)) (by omega) hR)
  have HM := Lib.hid (fun W (h : wr.grownBy W none) => Calls.seen (RingI.many_at gc vc R l W (HRC1.out.grown0 h)))
  have HO := Lib.hid (fun W (h : wr.grownBy W none) => Calls.seen (RingI.room_at gc vc R l W (HRC1.out.grown0 h)))
  rw [HL.out] at HM
  simp only [RingI.pairV] at HA HB
  go_wp2
  go_loopw [58] (fun v W => ∃ age : Int, v = .int .i64 age ∧ 0 ≤ age ∧ age ≤ (k : Int) + 1 ∧ wr.grownBy W none) (fun v _ => ((k : Int) + 1 - intOf v).toNat)
  case atStart => exact ⟨0, rfl, by omega, by omega, grown_refl _ _⟩
  case round =>
  obtain ⟨age, rfl, ha1, ha2, hgr⟩ := hrel
  rename_i wr2
  by_cases hlt : age < (k : Int) + 1
  · have HA1 := Lib.hid (HA.out age _ hgr)
    have HB1 := Lib.hid (fun W h => HB.out age W (hgr.trans h))
    generalize agedIn 0 R l age = p at *
    obtain ⟨p1, p2⟩ := p
    have HGR := Lib.hid hgr
    clear hgr HA HB HO HM
    go_wp2_with fail
    refine HA1.out.mono ?_
    rintro e w3 ⟨rfl, hg3⟩
    go_wp2_with fail
    refine (HB1.out _ hg3).mono ?_
    rintro e w4 ⟨rfl, hg4⟩
    clear HA1 HB1
    go_wp2
    go_roundw
    case rel => exact ⟨age + 1, rfl, by omega, by omega, (HGR.out.trans hg3).trans hg4⟩
    case measure => simp only [intOf]; omega
  · have HM1 := Lib.hid (HM.out _ hgr)
    have HO1 := Lib.hid (fun W h => HO.out W (hgr.trans h))
    have HGR := Lib.hid hgr
    clear hgr HA HB HO HM
    go_wp2_with fail
    refine HM1.out.mono ?_
    clear HM1
    rintro e w3 ⟨rfl, hg3⟩
    go_wp2_with fail
    refine (HO1.out _ hg3).mono ?_
    clear HO1
    rintro e w4 ⟨rfl, hg4⟩
    go_wp2_with (go_at_call 11; refine (awake_any _).mono ?_; rintro e w5 ⟨rfl, hg5⟩)
    go_ret
    exact ⟨rfl, (((HGW.out.trans HGR.out).trans hg3).trans hg4).trans hg5⟩
end Go.Proofs.Ytnbeakpmglefmaa
