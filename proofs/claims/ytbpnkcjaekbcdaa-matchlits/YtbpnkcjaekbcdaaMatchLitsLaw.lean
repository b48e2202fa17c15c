/-
  The law MatchLits, walked.
-/
import Derived.Test.YtbpnkcjaekbcdaaMatchAwake
import Derived.Test.YtbpnkcjaekbcdaaLzLits
import Derived.Test.YtbpnkcjaekbcdaaMapEnt
import Derived.BigRegion
namespace Go.Proofs.Ytbpnkcjaekbcdaa
open Go.RowKit

set_option maxHeartbeats 4000000 in
theorem matchLits_walk (A : Option Addr) (n c : Nat) (b : List UInt8) (win : Int) (w : World) (hb : Rd w (.slice A n c) (bytesV b)) :
    Calls Try.prog 7 #[.slice A n c, .int .i64 win] w (Awake w) := by
  have hbn : b.length = n := by have := hb.len.1; rwa [bytesV_len] at this
  by_cases h1 : 200 < n
  · have hd1 : decide (200 < (n : Int)) = true := by simp; omega
    clear hb hbn
    go_enter Try.func7, Try.ntmps7
    go_wp2_with (go_at_call 9; refine (awake_any _).mono ?_; rintro e w9 ⟨rfl, hg9⟩)
    go_ret
    exact ⟨rfl, hg9⟩
  have hd1 : decide (200 < (n : Int)) = false := by simp; omega
  by_cases h2 : win < 1
  · have hd2 : decide (win < 1) = true := by simpa using h2
    clear hb hbn h1
    go_enter Try.func7, Try.ntmps7
    go_wp2_with (go_at_call 9; refine (awake_any _).mono ?_; rintro e w9 ⟨rfl, hg9⟩)
    go_ret
    exact ⟨rfl, hg9⟩
  have hd2 : decide (win < 1) = false := by simpa using h2
  by_cases h3 : 32768 < win
  · have hd3 : decide (32768 < win) = true := by simpa using h3
    clear hb hbn h1
    go_enter Try.func7, Try.ntmps7
    go_wp2_with (go_at_call 9; refine (awake_any _).mono ?_; rintro e w9 ⟨rfl, hg9⟩)
    go_ret
    exact ⟨rfl, hg9⟩
  have hd3 : decide (32768 < win) = false := by simpa using h3
  have HPA := Lib.hid (fun W (h : w.grownBy W none) => parse_any _ b win W (hb.grown0 h) (by omega))
  have HPL := Lib.hid (fun h => parse_lits b win (by omega) h)
  have hmm := @run_makeMap Try.prog
  have HB := Lib.hid hb
  have HN := Lib.hid hbn
  have hnn : n ≤ 200 := by omega
  have hnc := hb.len.2
  clear hb hbn h1 h2 h3
  go_enter Try.func7, Try.ntmps7
  go_wp2
  generalize hG : w.heap.size = gm at *
  have hm0 := (Mp.made w hG).same (M' := cnt b 0) (fun x => by simp [cnt, lastP])
  have hg0 := grown_alloc (grown_refl w none) (.map #[] 0)
  generalize w.alloc (.map #[] 0) = W0 at *
  have HM0 := Lib.hid hm0
  have HG0 := Lib.hid hg0
  have HGE := Lib.hid hG
  clear hm0 hg0 hG hmm
  go_loopw [6] (fun i V => ∃ k : Nat, k ≤ n ∧ i = .int .i64 k ∧ Mp V gm k (cnt b k) ∧ Apart b k ∧ w.grownBy V none) (fun i _ => n - (intOf i).toNat)
  case atStart => exact ⟨0, Nat.zero_le _, rfl, HM0.out, fun j x h => by omega, HG0.out⟩
  case round =>
    obtain ⟨k, hk, rfl, hm, hap, hg⟩ := hrel
    by_cases hlt : k + 3 ≤ n
    · have hdk : decide ((k : Int) + 3 ≤ (n : Int)) = true := by simp; omega
      obtain ⟨x, y, z, ht⟩ := first3_some (l := b.drop k) (by rw [List.length_drop, HN.out]; omega)
      have ht3 := first3_at ht
      obtain ⟨ad, rfl, _⟩ := HB.out.cells (by intro e; have := congrArg List.length e; rw [bytesV_len, HN.out] at this; simp at this; omega)
      have hrd := (HB.out.grown0 hg).drop (n := k) (by omega)
      rw [show (bytesV b).drop k = bytesV (b.drop k) by simp [bytesV, List.map_drop]] at hrd
      obtain ⟨ad', e, hc⟩ := hrd.cells (by intro e; have := congrArg List.length e; rw [bytesV_len, List.length_drop, HN.out] at this; simp at this; omega)
      obtain rfl : ad.add k = ad' := by simpa using e
      have k0 := hc 0 (byteV x) (by rw [bytesV, List.getElem?_map, ht3.1]; rfl)
      have k1 := hc 1 (byteV y) (by rw [bytesV, List.getElem?_map, ht3.2.1]; rfl)
      have k2 := hc 2 (byteV z) (by rw [bytesV, List.getElem?_map, ht3.2.2.1]; rfl)
      rw [show (ad.add k).add 0 = ad.add k by unfold Addr.add; simp] at k0
      rw [show (ad.add k).add 1 = ⟨(ad.add k).block, (ad.add k).off + 1, none⟩ by rw [Addr.add]; simp] at k1
      rw [show (ad.add k).add 2 = ⟨(ad.add k).block, (ad.add k).off + 2, none⟩ by rw [Addr.add]; simp] at k2
      unfold byteV at k0 k1 k2
      have harr := fun w => run_arrayAt (ad.add k) (n - k) (c - k) w (by omega)
      have hlk := (hm.grown0 (grown_alloc (grown_refl wr none) (.cells #[.int .u8 (x.toNat : Int), .int .u8 (y.toNat : Int), .int .u8 (z.toNat : Int)] 45))).look1 (x, y, z)
      unfold triV at hlk
      simp only at hlk
      have HM := Lib.hid hm
      have HAP := Lib.hid hap
      have HG := Lib.hid hg
      have HT := Lib.hid (show tri b k = some (x, y, z) from ht)
      clear hm hap hg hrd hc e ht3
      by_cases hl0 : 0 ≤ lastP b (x, y, z) k
      · rw [show cnt b k (x, y, z) = some 1 by unfold cnt; rw [if_pos hl0]] at hlk
        have hlk' : _ = Result.ok (Value.int .i64 1) _ := hlk
        clear hlk hl0 ht
        go_wp2_with (go_at_call 9; refine (awake_any _).mono ?_; rintro e w9 ⟨rfl, hg9⟩)
        go_ret
        exact ⟨rfl, (grown_alloc HG.out _).trans hg9⟩
      · have hcn : cnt b k (x, y, z) = none := by unfold cnt; rw [if_neg hl0]
        rw [hcn] at hlk
        have hlk' : _ = Result.ok (Value.int .i64 0) _ := hlk
        go_wp2
        have hr7 : Row (wr.alloc (.cells #[.int .u8 (x.toNat : Int), .int .u8 (y.toNat : Int), .int .u8 (z.toNat : Int)] 45)) wr.heap.size 45 [.int .u8 (x.toNat : Int), .int .u8 (y.toNat : Int), .int .u8 (z.toNat : Int)] := Row.new wr _ _
        have hg7 := grown_alloc (grown_refl wr none) (.cells #[.int .u8 (x.toNat : Int), .int .u8 (y.toNat : Int), .int .u8 (z.toNat : Int)] 45)
        have hgm : gm < wr.heap.size := HM.out.lt
        generalize wr.alloc (.cells #[.int .u8 (x.toNat : Int), .int .u8 (y.toNat : Int), .int .u8 (z.toNat : Int)] 45) = W3 at *
        generalize wr.heap.size = g7 at *
        obtain ⟨w1, w2, s, hent, hlk1, hest, hm2, hg2, hg1⟩ := (show Mp W3.drew gm k (cnt b k) from HM.out.grown0 (grown_drew hg7)).entry (by unfold maxLen; omega) (x, y, z) hcn
        unfold triV at hent hlk1
        simp only at hent hlk1
        have hlk2 : (Instr.lookup 44 (.map (some gm)) (.agg #[.int .u8 (x.toNat : Int), .int .u8 (y.toNat : Int), .int .u8 (z.toNat : Int)]) false).run Try.prog W3.drew = .ok (.int .i64 0) W3.drew := by
          have := (show Mp W3.drew gm k (cnt b k) from HM.out.grown0 (grown_drew hg7)).look1 (x, y, z)
          rw [hcn] at this
          exact this
        have a0 : W3.drew.cell? ⟨g7, 0, none⟩ = some (.int .u8 (x.toNat : Int)) := hr7.cell (j := 0) rfl
        have a1 : W3.drew.cell? ⟨g7, 1, none⟩ = some (.int .u8 (y.toNat : Int)) := hr7.cell (j := 1) rfl
        have a2 : W3.drew.cell? ⟨g7, 2, none⟩ = some (.int .u8 (z.toNat : Int)) := hr7.cell (j := 2) rfl
        have hr71 := (show Row W3.drew g7 45 _ from hr7).grown hg1 (by simp; omega)
        have b0 := hr71.cell (j := 0) rfl
        have b1 := hr71.cell (j := 1) rfl
        have b2 := hr71.cell (j := 2) rfl
        have HM2 := Lib.hid (hm2.same (fun u => cnt_next b k (x, y, z) HT.out u))
        have HAP2 := Lib.hid (HAP.out.next HT.out (by omega))
        have HG2 := Lib.hid (grown_own (HG.out.trans (grown_drew hg7)) hg2 (by rw [HGE.out]; exact Nat.le_refl _))
        clear hm2 hg2 hg1 hr71 hr7 hg7 hlk hlk' hl0 ht hcn k0 k1 k2 harr
        go_region
        all_goals
          clear hent hlk1 hest hlk2 a0 a1 a2 b0 b1 b2
          go_wp2
          go_roundw
          case rel => exact ⟨k + 1, by omega, rfl, HM2.out, HAP2.out, HG2.out⟩
          case measure => simp only [intOf]; omega
    · have hdk : decide ((k : Int) + 3 ≤ (n : Int)) = false := by simp; omega
      have hpe := HPL.out (fun m => hap.all (by rw [HN.out]; omega) m)
      have HP1 := Lib.hid (HPA.out wr hg)
      rw [hpe] at HP1
      have HG := Lib.hid hg
      clear hm hap hg hpe HPL HPA
      obtain ⟨l, hl⟩ : ∃ l, b.map litT = l := ⟨_, rfl⟩
      have hll : l.length = n := by rw [← hl, List.length_map, HN.out]
      have HL := Lib.hid hl
      have HLL := Lib.hid hll
      rw [hl] at HP1
      clear hl
      go_wp2_with fail
      refine HP1.out.mono ?_
      rintro e w1 ⟨v1, rfl, hr1, hg1⟩
      obtain ⟨A1, c1, rfl⟩ := hr1.form
      rw [HLL.out] at hr1 ⊢
      have HR1 := Lib.hid hr1
      have HG1 := Lib.hid (HG.out.trans hg1)
      clear hr1 hg1 HP1 hll
      go_wp2
      go_loopw [52] (fun i V => ∃ q : Nat, q ≤ n ∧ i = .int .i64 q ∧ w1.grownBy V none) (fun i _ => n - (intOf i).toNat)
      case atStart => exact ⟨0, Nat.zero_le _, rfl, grown_refl _ _⟩
      case round =>
        obtain ⟨q, hq, rfl, hg⟩ := hrel
        by_cases hlq : q < n
        · have hql : q < l.length := by rw [HLL.out]; exact hlq
          have hqb : q < b.length := by rw [HN.out]; exact hlq
          have hnq : decide ((n : Int) ≤ (q : Int)) = false := by simp; omega
          obtain ⟨ad, t, rfl, ht, y0, y1, y2⟩ := (HR1.out.grown0 hg).tok hql
          obtain ⟨x, hx⟩ : ∃ x, b[q]? = some x := ⟨_, List.getElem?_eq_getElem hqb⟩
          obtain rfl : t = litT x := by
            have h1 : l[q]? = some t := by rw [List.getElem?_eq_getElem hql, ht]
            rw [← HL.out, List.getElem?_map, hx] at h1
            exact (Option.some.inj h1).symm
          simp only [litT] at y0 y1 y2
          obtain ⟨adb, rfl⟩ : ∃ adb, A = some adb := by
            obtain ⟨adb, e, _⟩ := HB.out.cells (by intro e; have := congrArg List.length e; rw [bytesV_len, HN.out] at this; simp at this; omega)
            exact ⟨adb, e⟩
          have HG3 := Lib.hid hg
          have HGA := Lib.hid (grown_alloc (grown_refl wr none) (.cells #[.int .u8 (x.toNat : Int), .int .i64 0, .int .i64 0] 38))
          have hcx := byte_cell (HB.out.grown0 ((HG1.out.trans hg).trans HGA.out)) hx
          have R7 : Row (wr.alloc (.cells #[.int .u8 (x.toNat : Int), .int .i64 0, .int .i64 0] 38)) wr.heap.size 38 [.int .u8 (x.toNat : Int), .int .i64 0, .int .i64 0] := Row.new wr _ _
          have d0 := R7.cell (j := 0) rfl
          have d1 := R7.cell (j := 1) rfl
          have d2 := R7.cell (j := 2) rfl
          clear hg ht R7 hx
          go_wp2
          generalize wr.alloc (.cells #[.int .u8 (x.toNat : Int), .int .i64 0, .int .i64 0] 38) = W4 at *
          clear y0 y1 y2
          go_quiet (fail)
          go_wp2
          go_roundw
          case rel => exact ⟨q + 1, by omega, rfl, HG3.out.trans (grown_drewN HGA.out _)⟩
          case measure => simp only [intOf]; omega
        · have hqn : q = n := by omega
          subst hqn
          have HG3 := Lib.hid (HG1.out.trans hg)
          clear hg
          go_wp2_with (go_at_call 9; refine (awake_any _).mono ?_; rintro e w9 ⟨rfl, hg9⟩)
          go_ret
          exact ⟨rfl, HG3.out.trans hg9⟩
end Go.Proofs.Ytbpnkcjaekbcdaa
