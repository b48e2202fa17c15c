/-
  The law AeadOpens, walked.
-/
import Derived.Test.YtjcbdplbekecjaaAeOpened
namespace Go.Proofs.Ytjcbdplbekecjaa
open Go.RowKit

set_option maxHeartbeats 8000000 in
set_option maxRecDepth 100000 in
theorem aeadOpens_walk (key : List UInt8) (hk : key.length = 32) (nonce : List UInt8) (hn : nonce.length = 12) (A0 : Option Addr) (n0 c0 : Nat) (h : List UInt8) (A1 : Option Addr) (n1 c1 : Nat) (t : List UInt8) (w : World) (hr0 : Rd w (.slice A0 n0 c0) (bytesV h)) (hr1 : Rd w (.slice A1 n1 c1) (bytesV t)) :
    Calls Try.prog 4 #[.agg (bytesV key).toArray, .agg (bytesV nonce).toArray, .slice A0 n0 c0, .slice A1 n1 c1] w (Awake w) := by
  have hl0 : h.length = n0 := by have := hr0.len.1; rwa [bytesV_len] at this
  have hl1 : t.length = n1 := by have := hr1.len.1; rwa [bytesV_len] at this
  have HL0 := Lib.hid hl0
  have HL1 := Lib.hid hl1
  have HK := Lib.hid hk
  have HN := Lib.hid hn
  have HKL := Lib.hid (show (bytesV key).length = 32 by rw [bytesV_len, hk])
  have HNL := Lib.hid (show (bytesV nonce).length = 12 by rw [bytesV_len, hn])
  generalize hG : w.heap.size = G
  have HG := Lib.hid hG
  obtain ⟨W0, hW0⟩ : ∃ W, (w.alloc (.cells (bytesV key).toArray 22)).alloc (.cells (bytesV nonce).toArray 23) = W := ⟨_, rfl⟩
  have R0 := Lib.hid (show Row W0 G 22 (bytesV key) by rw [← hW0]; exact (Row.newAt w _ (bytesV key) hG).alloc _)
  have R1 := Lib.hid (show Row W0 (G + 1) 23 (bytesV nonce) by rw [← hW0]; exact Row.newAt _ _ (bytesV nonce) (by simp [hG]))
  have HGR := Lib.hid (show w.grownBy W0 none by rw [← hW0]; exact grown_alloc (grown_alloc (grown_refl _ _) _) _)
  have D0 := Lib.hid (hr0.grown0 HGR.out)
  have D1 := Lib.hid (hr1.grown0 HGR.out)
  have hmc := hr1.len.2.1
  have hcm := hr1.len.2.2
  unfold maxLen at hcm
  have hrh := hr0
  clear hk hn hr0 hr1 hl0 hl1
  by_cases hm0 : 60 < n0
  · have hdec : decide (60 < (n0 : Int)) = true := by simp; omega
    clear hm0
    go_enter Try.func4, Try.ntmps4
    go_wp2_with (go_at_call 8; refine (awake_any _).mono ?_; rintro e w5 ⟨rfl, hg5⟩)
    go_ret
    exact ⟨rfl, HGR.out.trans hg5⟩
  have hdec : decide (60 < (n0 : Int)) = false := by simp; omega
  by_cases hm1 : 60 < n1
  · have hdec1 : decide (60 < (n1 : Int)) = true := by simp; omega
    clear hm1
    go_enter Try.func4, Try.ntmps4
    go_wp2_with (go_at_call 8; refine (awake_any _).mono ?_; rintro e w5 ⟨rfl, hg5⟩)
    go_ret
    exact ⟨rfl, HGR.out.trans hg5⟩
  have hdec1 : decide (60 < (n1 : Int)) = false := by simp; omega
  have HM := Lib.hid (show n0 ≤ 60 ∧ n1 ≤ 60 by omega)
  clear hm0 hm1 hmc hcm
  go_enter Try.func4, Try.ntmps4
  go_wp2_with (first
    | refine wpList_load_row _ rfl _ 22 rfl G 22 (bytesV key) _ rfl R0.out Try.underlying22 rfl (by rw [HKL.out]; kernel_rfl) ?_
    | refine wpList_load_row _ rfl _ 23 rfl (G + 1) 23 (bytesV nonce) _ rfl R1.out Try.underlying23 rfl (by rw [HNL.out]; kernel_rfl) ?_)
  clear hG hW0
  refine ((open_any key HK.out nonce HN.out _ _ h t W0 D0.out D1.out (by have := HM.out; have := HL0.out; omega) (by have := HM.out; have := HL1.out; omega)).mono fun _ _ h => h.pair (by have := HM.out; have := HL1.out; omega)).mono ?_
  rintro e w2 ⟨_, rfl, hg2, u2, rfl, hr2⟩
  have HC2 := Lib.hid (fun (v0 v1 v2 v3 : Value) (W : World) (h0 : IsB key v0 W) (h1 : IsB nonce v1 W) (h2 : IsB h v2 W) (h3 : IsB t v3 W) => (ropen_any v0 v1 v2 v3 key HK.out nonce HN.out h t (by have := HM.out; have := HL0.out; omega) (by have := HM.out; have := HL1.out; omega) W h0 h1 h2 h3).mono fun _ _ h => h.pair)
  generalize opened key nonce h t = O at *
  obtain ⟨O1, O2⟩ := O
  simp only at hr2 HC2 ⊢
  have P0 := Lib.hid (R0.out.grown0 hg2)
  have P1 := Lib.hid (R1.out.grown0 hg2)
  have E0 := Lib.hid (D0.out.grown0 hg2)
  have E1 := Lib.hid (D1.out.grown0 hg2)
  have HG2 := Lib.hid (HGR.out.trans hg2)
  have HR2 := Lib.hid hr2
  clear hg2 hr2 R0 R1 D0 D1 HGR
  go_wp2
  refine wp_region_walk3 10 [] dis_nil (by kernel_rfl) (by kernel_rfl) (by kernel_rfl) ?_
  simp only [List.take_succ_cons, List.take_zero, List.drop_succ_cons, List.drop_zero]
  refine Walk.val (G := IsB (key)) (stays_bytes _ _) rfl rfl (fun a w hm hd => ⟨wanted_plain rfl, st_all 32 rfl G 22 key (by rw [hm.outer 4 (by kernel_rfl)]; rfl) (P0.out.grown0 hm.grow.none2) (by rw [← bytesV_len]; exact HKL.out) (by decide) Try.underlying22⟩) ?_
  refine Walk.val (G := IsB (nonce)) (stays_bytes _ _) rfl rfl (fun a w hm hd => ⟨wanted_plain rfl, st_all 12 rfl (G + 1) 23 nonce (by rw [hm.outer 5 (by kernel_rfl)]; rfl) (P1.out.grown0 hm.grow.none2) (by rw [← bytesV_len]; exact HNL.out) (by decide) Try.underlying23⟩) ?_
  refine Walk.val (G := IsB (h)) (stays_bytes _ _) rfl rfl (fun a w hm hd => ⟨wanted_plain rfl, st_move rfl (by rw [hm.outer 2 (by kernel_rfl)]; exact E0.out.grown0 hm.grow.none2)⟩) ?_
  refine Walk.val (G := IsB (t)) (stays_bytes _ _) rfl rfl (fun a w hm hd => ⟨wanted_plain rfl, st_move rfl (by rw [hm.outer 3 (by kernel_rfl)]; exact E1.out.grown0 hm.grow.none2)⟩) ?_
  refine Walk.call (G := IsT O1 O2) (stays_T _ _ _) rfl 12 rfl (fun a w hm ha hd => ⟨wanted_plain rfl, _, ex_call4 Try.func12 (by kernel_rfl) (by kernel_rfl) rfl, by
    have h0 : IsB (key) (a.eval (.tmp 31)) w := (hd.at_ 0 rfl rfl rfl rfl)
    have h1 : IsB (nonce) (a.eval (.tmp 32)) w := (hd.at_ 1 rfl rfl rfl rfl)
    have h2 : IsB (h) (a.eval (.tmp 33)) w := (hd.at_ 2 rfl rfl rfl rfl)
    have h3 : IsB (t) (a.eval (.tmp 34)) w := (hd.at_ 3 rfl rfl rfl rfl)
    exact HC2.out _ _ _ _ w h0 h1 h2 h3⟩) ?_
  refine Walk.val (G := IsT O1 O2) (stays_T _ _ _) rfl rfl (fun a w hm hd => ⟨wanted_plain rfl, st_move rfl (hd.at_ 4 rfl rfl rfl rfl)⟩) ?_
  refine Walk.val (G := IsB (O1)) (stays_bytes _ _) rfl rfl (fun a w hm hd => ⟨wanted_plain rfl, st_fst rfl (hd.at_ 5 rfl rfl rfl rfl)⟩) ?_
  refine Walk.val (G := Is (.int .i64 ((O2 : Int)))) (stays_is _ _) rfl rfl (fun a w hm hd => ⟨wanted_plain rfl, st_snd rfl (hd.at_ 5 rfl rfl rfl rfl)⟩) ?_
  refine Walk.val (G := IsB (O1)) (stays_bytes _ _) rfl rfl (fun a w hm hd => ⟨wanted_plain rfl, st_assign rfl (hd.at_ 6 rfl rfl rfl rfl)⟩) ?_
  refine Walk.val (G := Is (.int .i64 ((O2 : Int)))) (stays_is _ _) rfl rfl (fun a w hm hd => ⟨wanted_plain rfl, st_assign rfl (hd.at_ 7 rfl rfl rfl rfl)⟩) ?_
  intro a9 V hm9 hall
  have f37 : Is (.int .i64 ((O2 : Int))) (a9.eval (.tmp 37)) V := hall 7 _ _ rfl rfl
  have f11 : IsB (O1) (a9.eval (.tmp 11)) V := hall 8 _ _ rfl rfl
  have f12 : Is (.int .i64 ((O2 : Int))) (a9.eval (.tmp 12)) V := hall 9 _ _ rfl rfl
  have hfr := hm9.frame
  simp only [List.take_succ_cons, List.take_zero, List.filterMap_cons, List.filterMap_nil, List.foldl_cons, List.foldl_nil] at hfr
  have hgV : w2.grownBy V none := GrownX.none2 hm9.grow
  clear hall hm9
  generalize a9.eval (.tmp 31) = e31 at hfr
  generalize a9.eval (.tmp 32) = e32 at hfr
  generalize a9.eval (.tmp 33) = e33 at hfr
  generalize a9.eval (.tmp 34) = e34 at hfr
  generalize a9.eval (.tmp 35) = e35 at hfr
  generalize a9.eval (.tmp 30) = e30 at hfr
  generalize a9.eval (.tmp 36) = e36 at hfr
  rw [show a9.eval (.tmp 37) = _ from f37] at hfr
  clear f37
  generalize a9.eval (.tmp 11) = e11 at hfr f11
  rw [show a9.eval (.tmp 12) = _ from f12] at hfr
  clear f12
  have hra := HR2.out.grown0 hgV
  have hrb : Rd V e11 (bytesV O1) := f11
  have HGV := Lib.hid (HG2.out.trans hgV)
  obtain ⟨Aa, ca, hva⟩ := hra.form
  obtain ⟨Ab, cb, hvb⟩ := hrb.form
  subst hva hvb
  have hsa := run_str hra
  have hsb := run_str hrb
  have HAW := Lib.hid (awake_any V)
  generalize O1.toArray = ta at *
  clear P0 P1 E0 E1 HG2 HR2 hgV f11 hra hrb HC2
  unfold wpList
  rw [hfr]
  clear hfr
  go_simp
  go_wp2_with fail
  refine HAW.out.mono ?_
  rintro e w4 ⟨rfl, hg4⟩
  go_wp2
  go_ret
  exact ⟨rfl, HGV.out.trans hg4⟩
end Go.Proofs.Ytjcbdplbekecjaa
