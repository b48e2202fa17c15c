/-
  The law AeadTag, walked.
-/
import Derived.Test.YtjcbdplbekecjaaAeTurned
namespace Go.Proofs.Ytjcbdplbekecjaa
open Go.RowKit

set_option maxHeartbeats 8000000 in
set_option maxRecDepth 100000 in
theorem aeadTag_walk (key : List UInt8) (hk : key.length = 32) (nonce : List UInt8) (hn : nonce.length = 12) (A0 : Option Addr) (n0 c0 : Nat) (h : List UInt8) (A1 : Option Addr) (n1 c1 : Nat) (t : List UInt8) (q : Nat) (ha : q < 256) (b : UInt8) (w : World) (hr0 : Rd w (.slice A0 n0 c0) (bytesV h)) (hr1 : Rd w (.slice A1 n1 c1) (bytesV t)) :
    Calls Try.prog 6 #[.agg (bytesV key).toArray, .agg (bytesV nonce).toArray, .slice A0 n0 c0, .slice A1 n1 c1, .int .u8 (q : Int), .int .u8 (b.toNat : Int)] w (Awake w) := by
  have hl0 : h.length = n0 := by have := hr0.len.1; rwa [bytesV_len] at this
  have hl1 : t.length = n1 := by have := hr1.len.1; rwa [bytesV_len] at this
  have HL0 := Lib.hid hl0
  have HL1 := Lib.hid hl1
  have HK := Lib.hid hk
  have HN := Lib.hid hn
  have HKL := Lib.hid (show (bytesV key).length = 32 by rw [bytesV_len, hk])
  have HNL := Lib.hid (show (bytesV nonce).length = 12 by rw [bytesV_len, hn])
  generalize hG : w.heap.size = G
  have HG := Lib.hid hG
  obtain ⟨W0, hW0⟩ : ∃ W, (w.alloc (.cells (bytesV key).toArray 22)).alloc (.cells (bytesV nonce).toArray 23) = W := ⟨_, rfl⟩
  have R0 := Lib.hid (show Row W0 G 22 (bytesV key) by rw [← hW0]; exact (Row.newAt w _ (bytesV key) hG).alloc _)
  have R1 := Lib.hid (show Row W0 (G + 1) 23 (bytesV nonce) by rw [← hW0]; exact Row.newAt _ _ (bytesV nonce) (by simp [hG]))
  have HGR := Lib.hid (show w.grownBy W0 none by rw [← hW0]; exact grown_alloc (grown_alloc (grown_refl _ _) _) _)
  have D0 := Lib.hid (hr0.grown0 HGR.out)
  have D1 := Lib.hid (hr1.grown0 HGR.out)
  have hmc := hr1.len.2.1
  have hcm := hr1.len.2.2
  unfold maxLen at hcm
  have hrh := hr0
  clear hk hn hr0 hr1 hl0 hl1
  by_cases hm0 : 500 < n0
  · have hdec : decide (500 < (n0 : Int)) = true := by simp; omega
    clear hm0
    go_enter Try.func6, Try.ntmps6
    go_wp2_with (go_at_call 8; refine (awake_any _).mono ?_; rintro e w5 ⟨rfl, hg5⟩)
    go_ret
    exact ⟨rfl, HGR.out.trans hg5⟩
  have hdec : decide (500 < (n0 : Int)) = false := by simp; omega
  by_cases hm1 : 500 < n1
  · have hdec1 : decide (500 < (n1 : Int)) = true := by simp; omega
    clear hm1
    go_enter Try.func6, Try.ntmps6
    go_wp2_with (go_at_call 8; refine (awake_any _).mono ?_; rintro e w5 ⟨rfl, hg5⟩)
    go_ret
    exact ⟨rfl, HGR.out.trans hg5⟩
  have hdec1 : decide (500 < (n1 : Int)) = false := by simp; omega
  have HM := Lib.hid (show n0 ≤ 500 ∧ n1 ≤ 500 by omega)
  clear hm0 hm1 hmc hcm
  go_enter Try.func6, Try.ntmps6
  have HA := Lib.hid ha
  have HRH := Lib.hid hrh
  have HRS := Lib.hid (show W0.heap.size = w.heap.size + 1 + 1 by rw [← hW0]; simp)
  clear ha hrh
  go_wp2_with (first
    | refine wpList_load_row _ rfl _ 22 rfl G 22 (bytesV key) _ rfl R0.out Try.underlying22 rfl (by rw [HKL.out]; kernel_rfl) ?_
    | refine wpList_load_row _ rfl _ 23 rfl (G + 1) 23 (bytesV nonce) _ rfl R1.out Try.underlying23 rfl (by rw [HNL.out]; kernel_rfl) ?_)
  clear hG hW0
  refine (seal_own key HK.out nonce HN.out _ _ h t W0 D0.out D1.out (by have := HM.out; have := HL0.out; omega) (by have := HM.out; have := HL1.out; omega)).mono ?_
  intro e w2 hO
  obtain ⟨A2, c2, rfl, ho2, hg2⟩ := hO.form
  have hsl := sealB_len key nonce h t
  rw [hsl, HL1.out] at ho2
  rw [hsl, HL1.out]
  have HSL := Lib.hid hsl
  have HTU := Lib.hid (fun (j : Nat) (y : UInt8) (hj : t.length ≤ j) (hj2 : j < t.length + 16) (hy : y ≠ (sealB key nonce h t).getD j 0) (w w' : World) (e : Ending) => OpenOut.turned (key := key) (nonce := nonce) (h := h) (t := t) (w := w) (w' := w') (e := e) j y hj hj2 hy)
  have P0 := Lib.hid (R0.out.grown0 hg2)
  have P1 := Lib.hid (R1.out.grown0 hg2)
  have E0 := Lib.hid (D0.out.grown0 hg2)
  have E1 := Lib.hid (D1.out.grown0 hg2)
  have HG2 := Lib.hid (HGR.out.trans hg2)
  have HO2 := Lib.hid ho2
  have HS := Lib.hid (Rd.of_own ho2)
  have HWS := Lib.hid HGR.out.size
  generalize sealB key nonce h t = S at *
  have hn1 : n1 ≤ 500 := HM.out.2
  clear hO ho2 hg2 R0 R1 D0 D1 HGR hsl
  go_wp2
  refine wp_region_walk3 14 [] dis_nil (by kernel_rfl) (by kernel_rfl) (by kernel_rfl) ?_
  simp only [List.take_succ_cons, List.take_zero, List.drop_succ_cons, List.drop_zero]
  refine Walk.val (G := Is (.agg (bytesV key).toArray)) (stays_is _ _) rfl rfl (fun a w hm hd => ⟨wanted_plain rfl, st_load rfl G 22 _ (by rw [hm.outer 6 (by kernel_rfl)]; rfl) (P0.out.grown0 hm.grow.none2) Try.underlying22 (by rw [HKL.out]; kernel_rfl)⟩) ?_
  refine Walk.val (G := Is (.agg (bytesV nonce).toArray)) (stays_is _ _) rfl rfl (fun a w hm hd => ⟨wanted_plain rfl, st_load rfl (G + 1) 23 _ (by rw [hm.outer 7 (by kernel_rfl)]; rfl) (P1.out.grown0 hm.grow.none2) Try.underlying23 (by rw [HNL.out]; kernel_rfl)⟩) ?_
  refine Walk.val (G := IsB (h)) (stays_bytes _ _) rfl rfl (fun a w hm hd => ⟨wanted_plain rfl, st_move rfl (by rw [hm.outer 2 (by kernel_rfl)]; exact E0.out.grown0 hm.grow.none2)⟩) ?_
  refine Walk.val (G := IsB (S)) (stays_bytes _ _) rfl rfl (fun a w hm hd => ⟨wanted_plain rfl, st_move rfl (by rw [hm.outer 13 (by kernel_rfl)]; exact HS.out.grown0 hm.grow.none2)⟩) ?_
  refine Walk.val (G := Is (.int .u8 (q : Int))) (stays_is _ _) rfl rfl (fun a w hm hd => ⟨wanted_plain rfl, st_move rfl (by rw [hm.outer 4 (by kernel_rfl)]; rfl)⟩) ?_
  refine Walk.val (G := Is (.int .i64 ((q : Int)))) (stays_is _ _) rfl rfl (fun a w hm hd => ⟨wanted_plain rfl, st_conv8 rfl (hd.at_ 4 rfl rfl rfl rfl) (by have := HSL.out; have := HL1.out; have := HA.out; omega)⟩) ?_
  refine Walk.val (G := Is (.int .i64 (((q % 16 : Nat) : Int)))) (stays_is _ _) rfl rfl (fun a w hm hd => ⟨wanted_plain rfl, st_rem 16 rfl (hd.at_ 5 rfl rfl rfl rfl) rfl (by decide)⟩) ?_
  refine Walk.val (G := IsB ((S).take (q % 16))) (stays_bytes _ _) rfl rfl (fun a w hm hd => ⟨wanted_plain rfl, st_take (q % 16) rfl (hd.at_ 3 rfl rfl rfl rfl) (hd.at_ 6 rfl rfl rfl rfl) (by have := HSL.out; have := HL1.out; have := HA.out; omega) (by have := HSL.out; have := HL1.out; have := HA.out; omega)⟩) ?_
  refine Walk.call (G := Is (.tuple #[.slice none 0 0, .int .i64 2])) (stays_is _ _) rfl 11 rfl (fun a w hm ha hd => ⟨wanted_plain rfl, _, ex_call4 Try.func11 (by kernel_rfl) (by kernel_rfl) rfl, by
    have h2 : IsB (h) (a.eval (.tmp 41)) w := (hd.at_ 2 rfl rfl rfl rfl)
    have h3 : IsB ((S).take (q % 16)) (a.eval (.tmp 46)) w := (hd.at_ 7 rfl rfl rfl rfl)
    rw [show a.eval (.tmp 39) = _ from (hd.at_ 0 rfl rfl rfl rfl), show a.eval (.tmp 40) = _ from (hd.at_ 1 rfl rfl rfl rfl)]
    exact Open.two (open_any key HK.out nonce HN.out _ _ h _ w h2 h3 (by have := HM.out; have := HL0.out; omega) (by rw [List.length_take]; omega)) (by rw [List.length_take]; omega)⟩) ?_
  refine Walk.val (G := Is (.tuple #[.slice none 0 0, .int .i64 2])) (stays_is _ _) rfl rfl (fun a w hm hd => ⟨wanted_plain rfl, st_move rfl (hd.at_ 8 rfl rfl rfl rfl)⟩) ?_
  refine Walk.val (G := Is (.slice none 0 0)) (stays_is _ _) rfl rfl (fun a w hm hd => ⟨wanted_plain rfl, st_extract 0 rfl (hd.at_ 9 rfl rfl rfl rfl) rfl⟩) ?_
  refine Walk.val (G := Is (.int .i64 (2))) (stays_is _ _) rfl rfl (fun a w hm hd => ⟨wanted_plain rfl, st_extract 1 rfl (hd.at_ 9 rfl rfl rfl rfl) rfl⟩) ?_
  refine Walk.val (G := Is (.slice none 0 0)) (stays_is _ _) rfl rfl (fun a w hm hd => ⟨wanted_plain rfl, st_assign rfl (hd.at_ 10 rfl rfl rfl rfl)⟩) ?_
  refine Walk.val (G := Is (.int .i64 (2))) (stays_is _ _) rfl rfl (fun a w hm hd => ⟨wanted_plain rfl, st_assign rfl (hd.at_ 11 rfl rfl rfl rfl)⟩) ?_
  intro a9 V hm9 hall
  have f39 : Is (.agg (bytesV key).toArray) (a9.eval (.tmp 39)) V := hall 0 _ _ rfl rfl
  have f40 : Is (.agg (bytesV nonce).toArray) (a9.eval (.tmp 40)) V := hall 1 _ _ rfl rfl
  have f43 : Is (.int .u8 (q : Int)) (a9.eval (.tmp 43)) V := hall 4 _ _ rfl rfl
  have f44 : Is (.int .i64 ((q : Int))) (a9.eval (.tmp 44)) V := hall 5 _ _ rfl rfl
  have f45 : Is (.int .i64 (((q % 16 : Nat) : Int))) (a9.eval (.tmp 45)) V := hall 6 _ _ rfl rfl
  have f47 : Is (.tuple #[.slice none 0 0, .int .i64 2]) (a9.eval (.tmp 47)) V := hall 8 _ _ rfl rfl
  have f38 : Is (.tuple #[.slice none 0 0, .int .i64 2]) (a9.eval (.tmp 38)) V := hall 9 _ _ rfl rfl
  have f48 : Is (.slice none 0 0) (a9.eval (.tmp 48)) V := hall 10 _ _ rfl rfl
  have f49 : Is (.int .i64 (2)) (a9.eval (.tmp 49)) V := hall 11 _ _ rfl rfl
  have f14 : Is (.slice none 0 0) (a9.eval (.tmp 14)) V := hall 12 _ _ rfl rfl
  have f15 : Is (.int .i64 (2)) (a9.eval (.tmp 15)) V := hall 13 _ _ rfl rfl
  have hfr := hm9.frame
  simp only [List.take_succ_cons, List.take_zero, List.filterMap_cons, List.filterMap_nil, List.foldl_cons, List.foldl_nil] at hfr
  have hgV : w2.grownBy V none := GrownX.none2 hm9.grow
  clear hall hm9
  rw [show a9.eval (.tmp 39) = _ from f39] at hfr
  clear f39
  rw [show a9.eval (.tmp 40) = _ from f40] at hfr
  clear f40
  generalize a9.eval (.tmp 41) = e41 at hfr
  generalize a9.eval (.tmp 42) = e42 at hfr
  rw [show a9.eval (.tmp 43) = _ from f43] at hfr
  clear f43
  rw [show a9.eval (.tmp 44) = _ from f44] at hfr
  clear f44
  rw [show a9.eval (.tmp 45) = _ from f45] at hfr
  clear f45
  generalize a9.eval (.tmp 46) = e46 at hfr
  rw [show a9.eval (.tmp 47) = _ from f47] at hfr
  clear f47
  rw [show a9.eval (.tmp 38) = _ from f38] at hfr
  clear f38
  rw [show a9.eval (.tmp 48) = _ from f48] at hfr
  clear f48
  rw [show a9.eval (.tmp 49) = _ from f49] at hfr
  clear f49
  rw [show a9.eval (.tmp 14) = _ from f14] at hfr
  clear f14
  rw [show a9.eval (.tmp 15) = _ from f15] at hfr
  clear f15
  have U0 := Lib.hid (P0.out.grown0 hgV)
  have U1 := Lib.hid (P1.out.grown0 hgV)
  have F0 := Lib.hid (E0.out.grown0 hgV)
  have HOV := Lib.hid (own_keepN HO2.out hgV)
  have HGV := Lib.hid (HG2.out.trans hgV)
  have HWV := Lib.hid hgV.size
  clear P0 P1 E0 E1 HG2 hgV HO2 HS
  unfold wpList
  rw [hfr]
  clear hfr
  go_simp
  by_cases hb : b = 0
  · have hb0 : ((b.toNat : Int) != 0) = false := by subst hb; rfl
    clear hb
    go_wp2_with (go_at_call 8; refine (awake_any _).mono ?_; rintro e w5 ⟨rfl, hg5⟩)
    go_ret
    exact ⟨rfl, HGV.out.trans hg5⟩
  · have hb0 : ((b.toNat : Int) != 0) = true := by
      have : b.toNat ≠ 0 := fun e => hb (UInt8.toNat_inj.1 (by simpa using e))
      simp; omega
    have HB := Lib.hid hb
    clear hb
    have hex : ∃ g, A2 = some ⟨g, 0, none⟩ := by
      rcases HOV.out.2 with ⟨_, h0⟩ | ⟨g, cap, cur, h0, _⟩
      · omega
      · injection h0 with h0; exact ⟨g, h0⟩
    obtain ⟨g, rfl⟩ := hex
    obtain ⟨j, hj⟩ : ∃ j, n1 + q % 16 = j := ⟨_, rfl⟩
    have hjl : j < S.length := by have := HSL.out; have := HL1.out; omega
    have hge : W0.heap.size ≤ g := (HOV.out.lt g rfl).1
    have hcell : V.cell? ⟨g, j, none⟩ = some (.int .u8 ((S.getD j 0).toNat : Int)) := by rw [HOV.out.cellAt j (by omega), bytesV_at S j hjl]
    have hfz : V.frozen? ⟨g, j, none⟩ = false := HOV.out.frozenAt j
    have hst := HOV.out.stored j (byteV (S.getD j 0 ^^^ b))
    rw [bytesV_set] at hst
    have HX := Lib.hid (xor8 (S.getD j 0) b)
    have HTJ := Lib.hid (HTU.out j (S.getD j 0 ^^^ b) (by have := HL1.out; omega) (by have := HL1.out; omega) (byte_xor_ne _ _ HB.out))
    generalize S.getD j 0 = y at *
    have HST : Hid ((V.setCell ⟨g, j, none⟩ (.int .u8 ((y ^^^ b).toNat : Int))).ownsRow W0.heap.size 5 1 (.slice (some ⟨g, 0, none⟩) (n1 + 16) c2) (n1 + 16) (bytesV (S.set j (y ^^^ b))) ∧ V.grownBy (V.setCell ⟨g, j, none⟩ (.int .u8 ((y ^^^ b).toNat : Int))) (some g)) := hst
    have hyb := UInt8.toNat_lt y
    have hbb := UInt8.toNat_lt b
    have HJ := Lib.hid (And.intro hj hjl)
    have HGE := Lib.hid hge
    have hqw : wrap64 (q : Int) = (q : Int) := by have := HA.out; unfold wrap64; omega
    have hji : j < n1 + 16 := by omega
    clear hst HOV hjl hge
    subst hj
    obtain ⟨V5, hV5⟩ : ∃ W, V.setCell ⟨g, n1 + q % 16, none⟩ (.int .u8 (bits .xor .u8 (y.toNat : Int) (b.toNat : Int))) = W := ⟨_, rfl⟩
    rw [← HX.out, hV5] at HST
    have hlt0 := U0.out.lt
    have hlt1 := U1.out.lt
    have hg0 := HG.out
    have hww := HWS.out
    have hws := HRS.out
    have Z0 := Lib.hid (U0.out.grown HST.out.2 (by have := HGE.out; simp; omega))
    have Z1 := Lib.hid (U1.out.grown HST.out.2 (by have := HGE.out; simp; omega))
    have HG5 := Lib.hid (grown_own HGV.out HST.out.2 (by have := HGE.out; omega))
    have Y0 := Lib.hid (HRH.out.grown0 HG5.out)
    clear hlt0 hlt1 hg0 hww hws
    go_wp2_with (first
    | refine wpList_load_row _ rfl _ 22 rfl G 22 (bytesV key) _ rfl Z0.out Try.underlying22 rfl (by rw [HKL.out]; kernel_rfl) ?_
    | refine wpList_load_row _ rfl _ 23 rfl (G + 1) 23 (bytesV nonce) _ rfl Z1.out Try.underlying23 rfl (by rw [HNL.out]; kernel_rfl) ?_)
    clear hV5 hcell hfz
    refine (open_any key HK.out nonce HN.out _ _ h _ V5 Y0.out (Rd.of_own HST.out.1) (by have := HM.out; have := HL0.out; omega) (by rw [List.length_set, HSL.out]; have := HL1.out; omega)).mono ?_
    intro e w6 hO
    obtain ⟨rfl, hg6⟩ := HTJ.out _ _ _ hO
    have HG6 := Lib.hid (HG5.out.trans hg6)
    clear hO hg6
    go_wp2_with (go_at_call 8; refine (awake_any _).mono ?_; rintro e w7 ⟨rfl, hg7⟩)
    go_ret
    exact ⟨rfl, HG6.out.trans hg7⟩
theorem aeadTag_at (key : List UInt8) (hk : key.length = 32) (nonce : List UInt8) (hn : nonce.length = 12) (A0 : Option Addr) (n0 c0 : Nat) (h : List UInt8) (A1 : Option Addr) (n1 c1 : Nat) (t : List UInt8) (q : Nat) (ha : q < 256) (b : Nat) (hb : b < 256) (w : World) (hr0 : Rd w (.slice A0 n0 c0) (bytesV h)) (hr1 : Rd w (.slice A1 n1 c1) (bytesV t)) :
    Calls Try.prog 6 #[.agg (bytesV key).toArray, .agg (bytesV nonce).toArray, .slice A0 n0 c0, .slice A1 n1 c1, .int .u8 (q : Int), .int .u8 (b : Int)] w (Awake w) := by
  have := aeadTag_walk key hk nonce hn A0 n0 c0 h A1 n1 c1 t q ha (UInt8.ofNat b) w hr0 hr1
  rwa [UInt8.toNat_ofNat_of_lt' hb] at this
end Go.Proofs.Ytjcbdplbekecjaa
