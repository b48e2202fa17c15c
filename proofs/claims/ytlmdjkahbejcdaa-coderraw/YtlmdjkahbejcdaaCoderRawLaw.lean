/-
  The law CoderRaw, walked.
-/
import Derived.Test.YtlmdjkahbejcdaaCodAwake
import Derived.Test.YtlmdjkahbejcdaaCodRawM
namespace Go.Proofs.Ytlmdjkahbejcdaa
open Go.RowKit

set_option maxHeartbeats 8000000 in
theorem coderRaw_walk (A : Option Addr) (len c : Nat) (b : List UInt8) (many : Nat) (hmany : many < 65536) (w : World) (hr : Rd w (.slice A len c) (bytesV b)) :
    Calls Try.prog 6 #[.slice A len c, .int .u16 (many : Int)] w (Awake w) := by
  have hlen : b.length = len := by have := hr.len.1; rwa [bytesV_len] at this
  obtain ⟨n, hn⟩ : ∃ n, many % 500 = n := ⟨_, rfl⟩
  have hmod : (many : Int).tmod 500 = (n : Int) := by rw [Int.tmod_eq_emod_of_nonneg (by omega), ← hn]; simp
  have hn2 : n < 500 := by omega
  clear hn
  by_cases hbig : 500 < len
  · have hd : decide (500 < (len : Int)) = true := by simp; omega
    clear hlen hr
    go_enter Try.func6, Try.ntmps6
    go_wp2_with (go_at_call 10; refine (awake_any _).mono ?_; rintro e w9 ⟨rfl, hg9⟩)
    go_ret
    exact ⟨rfl, hg9⟩
  have hd : decide (500 < (len : Int)) = false := by simp; omega
  have HOP := Lib.hid (open_any _ b w hr (by omega))
  have HLN := Lib.hid hlen
  have hrest := openN_rest b
  have HOR := Lib.hid (show (openN 4 b).rest.length = len - 4 ∧ (len < 4 → (openN 4 b).short = true) by rw [← hlen]; exact hrest)
  have hok4 := openN_ok 4 b
  have HO4 := Lib.hid (show Okr (openN 4 b) ∧ Sho (openN 4 b) from ⟨⟨by rw [hok4.2.1]; have := hok4.1; omega, by rw [hok4.2.1]; decide, by rw [hok4.2.1]; decide⟩, hok4.2.2.1⟩)
  clear hlen hr hrest hok4
  unfold OpOut at HOP
  generalize openN 4 b = R0 at *
  go_enter Try.func6, Try.ntmps6
  go_wp2_with fail
  refine HOP.out.mono ?_
  rintro e w1 ⟨gr, vbr, rfl, hrs1, hge1, hvb1, hg1⟩
  have HRS1 := Lib.hid hrs1
  have HG1 := Lib.hid (And.intro hge1 (And.intro hvb1 hg1))
  clear hrs1 hge1 hvb1 hg1 HOP
  go_wp2_with fail
  refine (chances_any 16 16 (by decide) w1).mono ?_
  rintro e w2 ⟨gc, t, rfl, hr2, hge2, hg2⟩
  have HS := Lib.hid (show Rs w2 gr vbr R0 ∧ Row w2 gc t (chV (List.replicate 16 1024)) ∧ w.grownBy w2 none from ⟨HRS1.out.grown0 hg2, hr2, HG1.out.2.2.trans hg2⟩)
  have HN := Lib.hid (show gc ≠ gr ∧ vbr ≠ some gc ∧ w.heap.size ≤ gr ∧ w.heap.size ≤ gc from ⟨fun e => by have := HRS1.out.lt; omega, fun e => by have := (HG1.out.2.1 gc e).2; omega, HG1.out.1, Nat.le_trans HG1.out.2.2.size hge2⟩)
  clear hr2 hge2 hg2 HRS1 HG1
  go_wp2
  go_loopw [25] (fun i W => ∃ (k : Nat) (R : Rst) (L : List Nat), k ≤ n ∧ i = .int .i64 k ∧ (Okr R ∧ Beh R0 R ∧ Okl L ∧ L.length = 16) ∧ (Rs W gr vbr R ∧ Row W gc t (chV L) ∧ w.grownBy W none)) (fun i _ => n - (intOf i).toNat)
  case atStart => exact ⟨0, R0, _, Nat.zero_le _, rfl, ⟨HO4.out.1, Beh.refl _, okl_first 16, rfl⟩, HS.out.1, HS.out.2.1, HS.out.2.2⟩
  case round =>
    obtain ⟨k, R, L, hk, rfl, ho, hh⟩ := hrel
    have HO := Lib.hid ho
    have HH := Lib.hid hh
    clear ho hh HS
    by_cases hlt : k < n
    · have hdk : decide ((k : Int) < (n : Int)) = true := by simp; omega
      have HB := Lib.hid (rbit_at gr vbr R gc 0 t L wr HH.out.1 HO.out.1 HH.out.2.1 (by rw [HO.out.2.2.2]; decide) HO.out.2.2.1 ⟨HN.out.1, HN.out.2.1⟩)
      have HBK := Lib.hid (bitR_ok HO.out.1 HO.out.2.2.1 (show 0 < L.length by rw [HO.out.2.2.2]; decide))
      have HBB := Lib.hid (show Beh R (bitR R L 0).2.1 from takeR_beh R _)
      go_wp2_with fail
      refine HB.out.mono ?_
      rintro e w3 ⟨rfl, hrs3, hr3, hn3⟩
      generalize bitR R L 0 = B at *
      have hb1 : B.1.toNat ≤ 1 := bit_le B.1
      obtain ⟨bv, hbv⟩ : ∃ bv, bv = B.1.toNat := ⟨_, rfl⟩
      rw [← hbv] at hb1 ⊢
      have hx0 : decide ((bv : Int) < 0) = false := by simp
      have hx1 : decide (1 < (bv : Int)) = false := by simp; omega
      have hx1' : decide (1 < bv) = false := by simp; omega
      have H3 := Lib.hid (show Rs w3 gr vbr B.2.1 ∧ Row w3 gc t (chV B.2.2) ∧ w.grownBy w3 none from ⟨hrs3, hr3, Wn.new HH.out.2.2 hn3 (fun b hb => by have := HN.out; simp at hb; omega) (fun b hb => by cases hb)⟩)
      have HT := Lib.hid (rtree_at gr vbr B.2.1 gc t B.2.2 16 16 4 w3 H3.out.1 HBK.out.1 H3.out.2.1 (by rw [HBK.out.2.2, HO.out.2.2.2]) HBK.out.2.1 ⟨HN.out.1, HN.out.2.1⟩ (by decide) (by decide) (by decide))
      have HTK := Lib.hid (treeR_ok 4 B.2.1 B.2.2 1 HBK.out.1 HBK.out.2.1 (by rw [HBK.out.2.2, HO.out.2.2.2]; decide))
      have HTB := Lib.hid (treeR_beh 4 B.2.1 B.2.2 1)
      have htr := treeR_range 4 B.2.1 B.2.2 1
      clear hrs3 hr3 hn3 HB hbv
      go_wp2_with fail
      refine HT.out.mono ?_
      rintro e w4 ⟨rfl, hrs4, hr4, hn4⟩
      generalize treeR B.2.1 B.2.2 4 1 = T at *
      obtain ⟨tv, htv⟩ : ∃ tv : Nat, (T.1 : Int) - ((2 ^ 4 : Nat) : Int) = (tv : Int) ∧ tv ≤ 15 := ⟨T.1 - 16, by omega, by omega⟩
      rw [htv.1]
      have hy := htv.2
      have hy0 : decide ((tv : Int) < 0) = false := by simp
      have hy1 : decide (15 < (tv : Int)) = false := by simp; omega
      have hy1' : decide (15 < tv) = false := by simp; omega
      have H4 := Lib.hid (show Rs w4 gr vbr T.2.1 ∧ Row w4 gc t (chV T.2.2) ∧ w.grownBy w4 none from ⟨hrs4, hr4, Wn.new H3.out.2.2 hn4 (fun b hb => by have := HN.out; simp at hb; omega) (fun b hb => by cases hb)⟩)
      have HE := Lib.hid (reven_at gr vbr T.2.1 3 w4 H4.out.1 HTK.out.1 (by decide))
      have HEK := Lib.hid (evenR_ok 3 T.2.1 0 HTK.out.1)
      have HEB := Lib.hid (evenR_beh 3 T.2.1 0)
      have her := evenR_lt 3 T.2.1 0
      clear hrs4 hr4 hn4 HT htr htv hx0 hx1 hx1'
      go_wp2_with fail
      refine HE.out.mono ?_
      rintro e w5 ⟨rfl, hrs5, hg5⟩
      generalize evenR T.2.1 0 3 = E at *
      obtain ⟨ev, hev⟩ : ∃ ev, ev = E.1 := ⟨_, rfl⟩
      rw [← hev] at her ⊢
      have hz0 : decide ((ev : Int) < 0) = false := by simp
      have hz1 : decide (7 < (ev : Int)) = false := by simp; omega
      have hz1' : decide (7 < ev) = false := by simp; omega
      have H5 := Lib.hid (show Rs w5 gr vbr E.2 ∧ Row w5 gc t (chV T.2.2) ∧ w.grownBy w5 none from ⟨hrs5, H4.out.2.1.grown hg5 (fun e => by cases e; exact HN.out.1 rfl), grown_own H4.out.2.2 hg5 HN.out.2.2.1⟩)
      have HK5 := Lib.hid (show Okr E.2 ∧ Beh R0 E.2 ∧ Okl T.2.2 ∧ T.2.2.length = 16 from ⟨HEK.out, HO.out.2.1.trans (HBB.out.trans (HTB.out.trans HEB.out)), HTK.out.2.1, by rw [HTK.out.2.2, HBK.out.2.2, HO.out.2.2.2]⟩)
      clear hrs5 hg5 HE hev hy0 hy1 hy1'
      go_wp2
      go_roundw
      case rel => exact ⟨k + 1, E.2, T.2.2, by omega, by go_num, HK5.out, H5.out⟩
      case measure => simp only [intOf]; omega
    · obtain rfl : k = n := by omega
      have hdk : decide ((k : Int) < (k : Int)) = false := by simp
      have HER := Lib.hid (err_at gr vbr R wr HH.out.1 (by have := HO.out.1.wide; omega))
      have HLF := Lib.hid (left_at gr vbr R wr HH.out.1)
      have hm : R.rest.length ≤ len - 4 := by have := HO.out.2.1.1; have := HOR.out.1; omega
      have hsh : Sho R := HO.out.2.1.2.2 HO4.out.2
      have hs4 : len < 4 → R.short = true := fun h => HO.out.2.1.2.1 (HOR.out.2 h)
      have HG := Lib.hid HH.out.2.2
      clear hlt hk HH HO
      by_cases h4 : len < 4
      · rw [hs4 h4] at HER
        have hm0 : R.rest.length = 0 := by omega
        rw [hm0] at HLF
        have hd4 : decide ((len : Int) < 4) = true := by simp; omega
        have hd4' : decide (len < 4) = true := by simp; omega
        have hl0 : (len : Int) - 4 < 0 := by omega
        clear hs4 hsh hm hm0
        go_wp2_with fail
        refine HER.out.mono ?_
        rintro e w6 ⟨rfl, hw6⟩
        obtain rfl := hw6.symm
        go_wp2_with fail
        refine HLF.out.mono ?_
        rintro e w6 ⟨rfl, hw6⟩
        obtain rfl := hw6.symm
        go_wp2_with fail
        refine HLF.out.mono ?_
        rintro e w6 ⟨rfl, hw6⟩
        obtain rfl := hw6.symm
        go_wp2_with fail
        refine HER.out.mono ?_
        rintro e w6 ⟨rfl, hw6⟩
        obtain rfl := hw6.symm
        go_wp2_with fail
        refine HLF.out.mono ?_
        rintro e w6 ⟨rfl, hw6⟩
        obtain rfl := hw6.symm
        go_wp2_with fail
        refine (awake_any wr).mono ?_
        rintro e w7 ⟨rfl, hg7⟩
        go_wp2
        go_ret
        exact ⟨rfl, HG.out.trans hg7⟩
      · have hd4 : decide ((len : Int) < 4) = false := by simp; omega
        have hd4' : decide (len < 4) = false := by simp; omega
        have hl0 : ¬ (len : Int) - 4 < 0 := by omega
        by_cases hss : R.short = true
        · have hre := hsh hss
          rw [hre] at HLF
          rw [hss] at HER
          have hl1 : decide ((len : Int) - 4 < 0) = false := by simp; omega
          clear hs4 hsh hm hre
          go_wp2_with fail
          refine HLF.out.mono ?_
          rintro e w6 ⟨rfl, hw6⟩
          obtain rfl := hw6.symm
          go_wp2_with fail
          refine HLF.out.mono ?_
          rintro e w6 ⟨rfl, hw6⟩
          obtain rfl := hw6.symm
          go_wp2_with fail
          refine HER.out.mono ?_
          rintro e w6 ⟨rfl, hw6⟩
          obtain rfl := hw6.symm
          go_wp2_with fail
          refine HLF.out.mono ?_
          rintro e w6 ⟨rfl, hw6⟩
          obtain rfl := hw6.symm
          go_wp2_with fail
          refine (awake_any wr).mono ?_
          rintro e w7 ⟨rfl, hg7⟩
          go_wp2
          go_ret
          exact ⟨rfl, HG.out.trans hg7⟩
        · rw [show R.short = false by simpa using hss] at HER
          generalize R.rest.length = m at *
          have hl1 : decide ((len : Int) - 4 < (m : Int)) = false := by simp; omega
          have hl2 : decide ((m : Int) < 0) = false := by simp
          clear hs4 hsh hss
          go_wp2_with fail
          refine HLF.out.mono ?_
          rintro e w6 ⟨rfl, hw6⟩
          obtain rfl := hw6.symm
          go_wp2_with fail
          refine HLF.out.mono ?_
          rintro e w6 ⟨rfl, hw6⟩
          obtain rfl := hw6.symm
          go_wp2_with fail
          refine HER.out.mono ?_
          rintro e w6 ⟨rfl, hw6⟩
          obtain rfl := hw6.symm
          go_wp2_with fail
          refine (awake_any wr).mono ?_
          rintro e w7 ⟨rfl, hg7⟩
          go_wp2
          go_ret
          exact ⟨rfl, HG.out.trans hg7⟩
end Go.Proofs.Ytlmdjkahbejcdaa
