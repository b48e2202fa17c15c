/-
  The law AeadText, walked.
-/
import Derived.Test.YtjcbdplbekecjaaAeAwake
namespace Go.Proofs.Ytjcbdplbekecjaa
open Go.RowKit

set_option maxHeartbeats 8000000 in
set_option maxRecDepth 100000 in
theorem aeadText_walk (key : List UInt8) (hk : key.length = 32) (nonce : List UInt8) (hn : nonce.length = 12) (A0 : Option Addr) (n0 c0 : Nat) (h : List UInt8) (A1 : Option Addr) (n1 c1 : Nat) (t : List UInt8) (w : World) (hr0 : Rd w (.slice A0 n0 c0) (bytesV h)) (hr1 : Rd w (.slice A1 n1 c1) (bytesV t)) :
    Calls Try.prog 7 #[.agg (bytesV key).toArray, .agg (bytesV nonce).toArray, .slice A0 n0 c0, .slice A1 n1 c1] w (Awake w) := by
  have hl0 : h.length = n0 := by have := hr0.len.1; rwa [bytesV_len] at this
  have hl1 : t.length = n1 := by have := hr1.len.1; rwa [bytesV_len] at this
  have HL0 := Lib.hid hl0
  have HL1 := Lib.hid hl1
  have HK := Lib.hid hk
  have HN := Lib.hid hn
  have HKL := Lib.hid (show (bytesV key).length = 32 by rw [bytesV_len, hk])
  have HNL := Lib.hid (show (bytesV nonce).length = 12 by rw [bytesV_len, hn])
  generalize hG : w.heap.size = G
  have HG := Lib.hid hG
  obtain ⟨W0, hW0⟩ : ∃ W, (w.alloc (.cells (bytesV key).toArray 22)).alloc (.cells (bytesV nonce).toArray 23) = W := ⟨_, rfl⟩
  have R0 := Lib.hid (show Row W0 G 22 (bytesV key) by rw [← hW0]; exact (Row.newAt w _ (bytesV key) hG).alloc _)
  have R1 := Lib.hid (show Row W0 (G + 1) 23 (bytesV nonce) by rw [← hW0]; exact Row.newAt _ _ (bytesV nonce) (by simp [hG]))
  have HGR := Lib.hid (show w.grownBy W0 none by rw [← hW0]; exact grown_alloc (grown_alloc (grown_refl _ _) _) _)
  have D0 := Lib.hid (hr0.grown0 HGR.out)
  have D1 := Lib.hid (hr1.grown0 HGR.out)
  have hmc := hr1.len.2.1
  have hcm := hr1.len.2.2
  unfold maxLen at hcm
  have hrh := hr0
  clear hk hn hr0 hr1 hl0 hl1
  by_cases hm0 : 300 < n0
  · have hdec : decide (300 < (n0 : Int)) = true := by simp; omega
    clear hm0
    go_enter Try.func7, Try.ntmps7
    go_wp2_with (go_at_call 8; refine (awake_any _).mono ?_; rintro e w5 ⟨rfl, hg5⟩)
    go_ret
    exact ⟨rfl, HGR.out.trans hg5⟩
  have hdec : decide (300 < (n0 : Int)) = false := by simp; omega
  by_cases hm1 : 300 < n1
  · have hdec1 : decide (300 < (n1 : Int)) = true := by simp; omega
    clear hm1
    go_enter Try.func7, Try.ntmps7
    go_wp2_with (go_at_call 8; refine (awake_any _).mono ?_; rintro e w5 ⟨rfl, hg5⟩)
    go_ret
    exact ⟨rfl, HGR.out.trans hg5⟩
  have hdec1 : decide (300 < (n1 : Int)) = false := by simp; omega
  have HM := Lib.hid (show n0 ≤ 300 ∧ n1 ≤ 300 by omega)
  clear hm0 hm1 hmc hcm
  go_enter Try.func7, Try.ntmps7
  go_wp2
  obtain ⟨S1, hS1⟩ : ∃ S, S = sealB key nonce h t := ⟨_, rfl⟩
  obtain ⟨S2, hS2⟩ : ∃ S, S = sealB key nonce [] t := ⟨_, rfl⟩
  have HS1 := Lib.hid (show S1.length = t.length + 16 ∧ S1.take t.length = xs key 1#32 nonce t by rw [hS1]; exact ⟨sealB_len _ _ _ _, sealB_take _ _ _ _⟩)
  have HS2 := Lib.hid (show S2.length = t.length + 16 ∧ S2.take t.length = xs key 1#32 nonce t by rw [hS2]; exact ⟨sealB_len _ _ _ _, sealB_take _ _ _ _⟩)
  have HC := Lib.hid (fun (v1 v2 : Value) (l : List UInt8) (W : World) (h1 : IsB l v1 W) (h2 : IsB t v2 W) (hl : l.length ≤ 300) => Out.made ((seal_own key HK.out nonce HN.out v1 v2 l t W h1 h2 (by omega) (by have := HM.out; have := HL1.out; omega)).mono fun _ _ h => h.out))
  have HC1 := Lib.hid (fun (v1 v2 : Value) (W : World) (h1 : IsB h v1 W) (h2 : IsB t v2 W) => HC.out v1 v2 h W h1 h2 (by have := HM.out; have := HL0.out; omega))
  have HC2 := Lib.hid (fun (v2 : Value) (W : World) (h2 : IsB t v2 W) => HC.out (.slice none 0 0) v2 [] W (Rd.nil _) h2 (by decide))
  rw [← hS1] at HC1
  rw [← hS2] at HC2
  clear hS1 hS2 HC
  refine wp_region_walk3 11 [] dis_nil (by kernel_rfl) (by kernel_rfl) (by kernel_rfl) ?_
  simp only [List.take_succ_cons, List.take_zero, List.drop_succ_cons, List.drop_zero]
  refine Walk.val (G := Is (.agg (bytesV key).toArray)) (stays_is _ _) rfl rfl (fun a w hm hd => ⟨wanted_plain rfl, st_load rfl G 22 _ (by rw [hm.outer 4 (by kernel_rfl)]; rfl) (R0.out.grown0 hm.grow.none2) Try.underlying22 (by rw [HKL.out]; kernel_rfl)⟩) ?_
  refine Walk.val (G := Is (.agg (bytesV nonce).toArray)) (stays_is _ _) rfl rfl (fun a w hm hd => ⟨wanted_plain rfl, st_load rfl (G + 1) 23 _ (by rw [hm.outer 5 (by kernel_rfl)]; rfl) (R1.out.grown0 hm.grow.none2) Try.underlying23 (by rw [HNL.out]; kernel_rfl)⟩) ?_
  refine Walk.val (G := IsB (h)) (stays_bytes _ _) rfl rfl (fun a w hm hd => ⟨wanted_plain rfl, st_move rfl (by rw [hm.outer 2 (by kernel_rfl)]; exact D0.out.grown0 hm.grow.none2)⟩) ?_
  refine Walk.val (G := IsB (t)) (stays_bytes _ _) rfl rfl (fun a w hm hd => ⟨wanted_plain rfl, st_move rfl (by rw [hm.outer 3 (by kernel_rfl)]; exact D1.out.grown0 hm.grow.none2)⟩) ?_
  refine Walk.call (G := IsB (S1)) (stays_bytes _ _) rfl 9 rfl (fun a w hm ha hd => ⟨wanted_plain rfl, _, ex_call4 Try.func9 (by kernel_rfl) (by kernel_rfl) rfl, by
    have h2 : IsB (h) (a.eval (.tmp 23)) w := (hd.at_ 2 rfl rfl rfl rfl)
    have h3 : IsB (t) (a.eval (.tmp 24)) w := (hd.at_ 3 rfl rfl rfl rfl)
    rw [show a.eval (.tmp 21) = _ from (hd.at_ 0 rfl rfl rfl rfl), show a.eval (.tmp 22) = _ from (hd.at_ 1 rfl rfl rfl rfl)]
    exact HC1.out _ _ w h2 h3⟩) ?_
  refine Walk.val (G := Is (.agg (bytesV key).toArray)) (stays_is _ _) rfl rfl (fun a w hm hd => ⟨wanted_plain rfl, st_load rfl G 22 _ (by rw [hm.outer 4 (by kernel_rfl)]; rfl) (R0.out.grown0 hm.grow.none2) Try.underlying22 (by rw [HKL.out]; kernel_rfl)⟩) ?_
  refine Walk.val (G := Is (.agg (bytesV nonce).toArray)) (stays_is _ _) rfl rfl (fun a w hm hd => ⟨wanted_plain rfl, st_load rfl (G + 1) 23 _ (by rw [hm.outer 5 (by kernel_rfl)]; rfl) (R1.out.grown0 hm.grow.none2) Try.underlying23 (by rw [HNL.out]; kernel_rfl)⟩) ?_
  refine Walk.val (G := IsB (t)) (stays_bytes _ _) rfl rfl (fun a w hm hd => ⟨wanted_plain rfl, st_move rfl (by rw [hm.outer 3 (by kernel_rfl)]; exact D1.out.grown0 hm.grow.none2)⟩) ?_
  refine Walk.call (G := IsB (S2)) (stays_bytes _ _) rfl 9 rfl (fun a w hm ha hd => ⟨wanted_plain rfl, _, ex_call4 Try.func9 (by kernel_rfl) (by kernel_rfl) rfl, by
    have h3 : IsB (t) (a.eval (.tmp 28)) w := (hd.at_ 7 rfl rfl rfl rfl)
    rw [show a.eval (.tmp 26) = _ from (hd.at_ 5 rfl rfl rfl rfl), show a.eval (.tmp 27) = _ from (hd.at_ 6 rfl rfl rfl rfl)]
    exact HC2.out _ w h3⟩) ?_
  refine Walk.val (G := IsB (S1)) (stays_bytes _ _) rfl rfl (fun a w hm hd => ⟨wanted_plain rfl, st_assign rfl (hd.at_ 4 rfl rfl rfl rfl)⟩) ?_
  refine Walk.val (G := IsB (S2)) (stays_bytes _ _) rfl rfl (fun a w hm hd => ⟨wanted_plain rfl, st_assign rfl (hd.at_ 8 rfl rfl rfl rfl)⟩) ?_
  intro a9 V hm9 hall
  have f21 : Is (.agg (bytesV key).toArray) (a9.eval (.tmp 21)) V := hall 0 _ _ rfl rfl
  have f22 : Is (.agg (bytesV nonce).toArray) (a9.eval (.tmp 22)) V := hall 1 _ _ rfl rfl
  have f26 : Is (.agg (bytesV key).toArray) (a9.eval (.tmp 26)) V := hall 5 _ _ rfl rfl
  have f27 : Is (.agg (bytesV nonce).toArray) (a9.eval (.tmp 27)) V := hall 6 _ _ rfl rfl
  have f9 : IsB (S1) (a9.eval (.tmp 9)) V := hall 9 _ _ rfl rfl
  have f10 : IsB (S2) (a9.eval (.tmp 10)) V := hall 10 _ _ rfl rfl
  have hfr := hm9.frame
  simp only [List.take_succ_cons, List.take_zero, List.filterMap_cons, List.filterMap_nil, List.foldl_cons, List.foldl_nil] at hfr
  have hgV : W0.grownBy V none := GrownX.none2 hm9.grow
  clear hall hm9
  rw [show a9.eval (.tmp 21) = _ from f21] at hfr
  clear f21
  rw [show a9.eval (.tmp 22) = _ from f22] at hfr
  clear f22
  generalize a9.eval (.tmp 23) = e23 at hfr
  generalize a9.eval (.tmp 24) = e24 at hfr
  generalize a9.eval (.tmp 25) = e25 at hfr
  rw [show a9.eval (.tmp 26) = _ from f26] at hfr
  clear f26
  rw [show a9.eval (.tmp 27) = _ from f27] at hfr
  clear f27
  generalize a9.eval (.tmp 28) = e28 at hfr
  generalize a9.eval (.tmp 29) = e29 at hfr
  generalize a9.eval (.tmp 9) = e9 at hfr f9
  generalize a9.eval (.tmp 10) = e10 at hfr f10
  have U0 := Lib.hid (R0.out.grown0 hgV)
  have U1 := Lib.hid (R1.out.grown0 hgV)
  have E1 := Lib.hid (D1.out.grown0 hgV)
  have HGV := Lib.hid (HGR.out.trans hgV)
  have F9 := Lib.hid f9
  have F10 := Lib.hid f10
  clear R0 R1 D0 D1 HGR hgV f9 f10 HC1 HC2 hW0 hG
  unfold wpList
  rw [hfr]
  clear hfr
  go_simp
  go_wp2_with (first
    | refine wpList_load_row _ rfl _ 22 rfl G 22 (bytesV key) _ rfl U0.out Try.underlying22 rfl (by rw [HKL.out]; kernel_rfl) ?_
    | refine wpList_load_row _ rfl _ 23 rfl (G + 1) 23 (bytesV nonce) _ rfl U1.out Try.underlying23 rfl (by rw [HNL.out]; kernel_rfl) ?_)
  refine (xor_one key HK.out nonce HN.out _ t V E1.out (by have := HM.out; have := HL1.out; omega)).mono ?_
  rintro e w8 ⟨v8, rfl, hg8, hx8⟩
  have HX := Lib.hid (show IsB (xs key 1#32 nonce t) v8 w8 from IsX.rd hx8 (by rw [xs_len]; have := HM.out; have := HL1.out; omega))
  generalize xs key 1#32 nonce t = X at *
  have P1 := Lib.hid (E1.out.grown0 hg8)
  have P9 := Lib.hid (F9.out.grown0 hg8)
  have P10 := Lib.hid (F10.out.grown0 hg8)
  have HG8 := Lib.hid (HGV.out.trans hg8)
  clear U0 U1 E1 F9 F10 HGV hg8 hx8
  go_wp2
  refine wp_region_steps none (by kernel_rfl) (by kernel_rfl) (by kernel_rfl) ?_
  refine Steps.val (G := IsB (S1)) (lasts_bytes _) rfl (fun a w hm hd => ⟨wanted_plain rfl, st_move rfl (by rw [hm.outer 9 (by kernel_rfl)]; exact P9.out.grown0 hm.grow)⟩) ?_
  refine Steps.val (G := Is (.int .i64 (((S1).length : Int)))) (lasts_is _) rfl (fun a w hm hd => ⟨wanted_plain rfl, st_len rfl (hd.at_ 0 rfl rfl rfl)⟩) ?_
  refine Steps.val (G := IsB (t)) (lasts_bytes _) rfl (fun a w hm hd => ⟨wanted_plain rfl, st_move rfl (by rw [hm.outer 3 (by kernel_rfl)]; exact P1.out.grown0 hm.grow)⟩) ?_
  refine Steps.val (G := Is (.int .i64 (((t).length : Int)))) (lasts_is _) rfl (fun a w hm hd => ⟨wanted_plain rfl, st_len rfl (hd.at_ 2 rfl rfl rfl)⟩) ?_
  refine Steps.val (G := Is (.int .i64 (((t).length : Int) + 16))) (lasts_is _) rfl (fun a w hm hd => ⟨wanted_plain rfl, st_addi rfl (hd.at_ 3 rfl rfl rfl) rfl (by have := HS1.out.1; have := HS2.out.1; have := HL1.out; have := HM.out; omega) (by have := HS1.out.1; have := HS2.out.1; have := HL1.out; have := HM.out; omega)⟩) ?_
  refine Steps.val (G := Is (.bool true)) (lasts_is _) rfl (fun a w hm hd => ⟨wanted_plain rfl, st_eqi rfl (hd.at_ 1 rfl rfl rfl) (hd.at_ 4 rfl rfl rfl) (by have := HS1.out.1; have := HS2.out.1; have := HL1.out; have := HM.out; omega)⟩) ?_
  refine Steps.val (G := Is (.bool true)) (lasts_is _) rfl (fun a w hm hd => ⟨wanted_plain rfl, st_move rfl (hd.at_ 5 rfl rfl rfl)⟩) ?_
  refine Steps.val (G := IsB (S2)) (lasts_bytes _) rfl (fun a w hm hd => ⟨wanted_at rfl rfl (hd.at_ 6 rfl rfl rfl), st_move rfl (by rw [hm.outer 10 (by kernel_rfl)]; exact P10.out.grown0 hm.grow)⟩) ?_
  refine Steps.val (G := Is (.int .i64 (((S2).length : Int)))) (lasts_is _) rfl (fun a w hm hd => ⟨wanted_at rfl rfl (hd.at_ 6 rfl rfl rfl), st_len rfl (hd.at_ 7 rfl rfl rfl)⟩) ?_
  refine Steps.val (G := IsB (S1)) (lasts_bytes _) rfl (fun a w hm hd => ⟨wanted_at rfl rfl (hd.at_ 6 rfl rfl rfl), st_move rfl (by rw [hm.outer 9 (by kernel_rfl)]; exact P9.out.grown0 hm.grow)⟩) ?_
  refine Steps.val (G := Is (.int .i64 (((S1).length : Int)))) (lasts_is _) rfl (fun a w hm hd => ⟨wanted_at rfl rfl (hd.at_ 6 rfl rfl rfl), st_len rfl (hd.at_ 9 rfl rfl rfl)⟩) ?_
  refine Steps.val (G := Is (.bool true)) (lasts_is _) rfl (fun a w hm hd => ⟨wanted_at rfl rfl (hd.at_ 6 rfl rfl rfl), st_eqi rfl (hd.at_ 8 rfl rfl rfl) (hd.at_ 10 rfl rfl rfl) (by have := HS1.out.1; have := HS2.out.1; have := HL1.out; have := HM.out; omega)⟩) ?_
  refine Steps.val (G := Is (.bool true)) (lasts_is _) rfl (fun a w hm hd => ⟨wanted_plain rfl, st_pick rfl (hd.at_ 6 rfl rfl rfl) (hd.at_ 11 rfl rfl rfl)⟩) ?_
  refine Steps.val (G := Is (.bool true)) (lasts_is _) rfl (fun a w hm hd => ⟨wanted_plain rfl, st_move rfl (hd.at_ 12 rfl rfl rfl)⟩) ?_
  refine Steps.val (G := IsB (S1)) (lasts_bytes _) rfl (fun a w hm hd => ⟨wanted_at rfl rfl (hd.at_ 13 rfl rfl rfl), st_move rfl (by rw [hm.outer 9 (by kernel_rfl)]; exact P9.out.grown0 hm.grow)⟩) ?_
  refine Steps.val (G := IsB (t)) (lasts_bytes _) rfl (fun a w hm hd => ⟨wanted_at rfl rfl (hd.at_ 13 rfl rfl rfl), st_move rfl (by rw [hm.outer 3 (by kernel_rfl)]; exact P1.out.grown0 hm.grow)⟩) ?_
  refine Steps.val (G := Is (.int .i64 (((t).length : Int)))) (lasts_is _) rfl (fun a w hm hd => ⟨wanted_at rfl rfl (hd.at_ 13 rfl rfl rfl), st_len rfl (hd.at_ 15 rfl rfl rfl)⟩) ?_
  refine Steps.val (G := IsB ((S1).take (t.length))) (lasts_bytes _) rfl (fun a w hm hd => ⟨wanted_at rfl rfl (hd.at_ 13 rfl rfl rfl), st_take (t.length) rfl (hd.at_ 14 rfl rfl rfl) (hd.at_ 16 rfl rfl rfl) (by have := HS1.out.1; have := HS2.out.1; have := HL1.out; have := HM.out; omega) (by have := HS1.out.1; have := HS2.out.1; have := HL1.out; have := HM.out; omega)⟩) ?_
  refine Steps.val (G := Is (.string ⟨((S1).take (t.length)).toArray⟩)) (lasts_is _) rfl (fun a w hm hd => ⟨wanted_at rfl rfl (hd.at_ 13 rfl rfl rfl), st_str rfl (hd.at_ 17 rfl rfl rfl)⟩) ?_
  refine Steps.val (G := IsB (X)) (lasts_bytes _) rfl (fun a w hm hd => ⟨wanted_at rfl rfl (hd.at_ 13 rfl rfl rfl), st_move rfl (by rw [hm.outer 11 (by kernel_rfl)]; exact HX.out.grown0 hm.grow)⟩) ?_
  refine Steps.val (G := Is (.string ⟨(X).toArray⟩)) (lasts_is _) rfl (fun a w hm hd => ⟨wanted_at rfl rfl (hd.at_ 13 rfl rfl rfl), st_str rfl (hd.at_ 19 rfl rfl rfl)⟩) ?_
  refine Steps.val (G := Is (.bool true)) (lasts_is _) rfl (fun a w hm hd => ⟨wanted_at rfl rfl (hd.at_ 13 rfl rfl rfl), st_eqs rfl (hd.at_ 18 rfl rfl rfl) (hd.at_ 20 rfl rfl rfl) HS1.out.2⟩) ?_
  refine Steps.val (G := Is (.bool true)) (lasts_is _) rfl (fun a w hm hd => ⟨wanted_plain rfl, st_pick rfl (hd.at_ 13 rfl rfl rfl) (hd.at_ 21 rfl rfl rfl)⟩) ?_
  refine Steps.val (G := Is (.bool true)) (lasts_is _) rfl (fun a w hm hd => ⟨wanted_plain rfl, st_move rfl (hd.at_ 22 rfl rfl rfl)⟩) ?_
  refine Steps.val (G := IsB (S2)) (lasts_bytes _) rfl (fun a w hm hd => ⟨wanted_at rfl rfl (hd.at_ 23 rfl rfl rfl), st_move rfl (by rw [hm.outer 10 (by kernel_rfl)]; exact P10.out.grown0 hm.grow)⟩) ?_
  refine Steps.val (G := IsB (t)) (lasts_bytes _) rfl (fun a w hm hd => ⟨wanted_at rfl rfl (hd.at_ 23 rfl rfl rfl), st_move rfl (by rw [hm.outer 3 (by kernel_rfl)]; exact P1.out.grown0 hm.grow)⟩) ?_
  refine Steps.val (G := Is (.int .i64 (((t).length : Int)))) (lasts_is _) rfl (fun a w hm hd => ⟨wanted_at rfl rfl (hd.at_ 23 rfl rfl rfl), st_len rfl (hd.at_ 25 rfl rfl rfl)⟩) ?_
  refine Steps.val (G := IsB ((S2).take (t.length))) (lasts_bytes _) rfl (fun a w hm hd => ⟨wanted_at rfl rfl (hd.at_ 23 rfl rfl rfl), st_take (t.length) rfl (hd.at_ 24 rfl rfl rfl) (hd.at_ 26 rfl rfl rfl) (by have := HS1.out.1; have := HS2.out.1; have := HL1.out; have := HM.out; omega) (by have := HS1.out.1; have := HS2.out.1; have := HL1.out; have := HM.out; omega)⟩) ?_
  refine Steps.val (G := Is (.string ⟨((S2).take (t.length)).toArray⟩)) (lasts_is _) rfl (fun a w hm hd => ⟨wanted_at rfl rfl (hd.at_ 23 rfl rfl rfl), st_str rfl (hd.at_ 27 rfl rfl rfl)⟩) ?_
  refine Steps.val (G := IsB (X)) (lasts_bytes _) rfl (fun a w hm hd => ⟨wanted_at rfl rfl (hd.at_ 23 rfl rfl rfl), st_move rfl (by rw [hm.outer 11 (by kernel_rfl)]; exact HX.out.grown0 hm.grow)⟩) ?_
  refine Steps.val (G := Is (.string ⟨(X).toArray⟩)) (lasts_is _) rfl (fun a w hm hd => ⟨wanted_at rfl rfl (hd.at_ 23 rfl rfl rfl), st_str rfl (hd.at_ 29 rfl rfl rfl)⟩) ?_
  refine Steps.val (G := Is (.bool true)) (lasts_is _) rfl (fun a w hm hd => ⟨wanted_at rfl rfl (hd.at_ 23 rfl rfl rfl), st_eqs rfl (hd.at_ 28 rfl rfl rfl) (hd.at_ 30 rfl rfl rfl) HS2.out.2⟩) ?_
  refine Steps.val (G := Is (.bool true)) (lasts_is _) rfl (fun a w hm hd => ⟨wanted_plain rfl, st_pick rfl (hd.at_ 23 rfl rfl rfl) (hd.at_ 31 rfl rfl rfl)⟩) ?_
  refine Steps.val (G := Is (.bool true)) (lasts_is _) rfl (fun a w hm hd => ⟨wanted_plain rfl, st_move rfl (hd.at_ 32 rfl rfl rfl)⟩) ?_
  refine Steps.call (G := Is (.bool true)) (lasts_is _) rfl 8 (fun a w hm hd => ⟨wanted_at rfl rfl (hd.at_ 33 rfl rfl rfl), _, ex_call0 Try.func8 (by kernel_rfl) (by kernel_rfl) rfl, by
    refine (awake_any w).mono ?_
    rintro e w' ⟨rfl, hg⟩
    exact ⟨_, rfl, hg, rfl⟩⟩) ?_
  refine Steps.val (G := Is (.bool true)) (lasts_is _) rfl (fun a w hm hd => ⟨wanted_plain rfl, st_pick rfl (hd.at_ 33 rfl rfl rfl) (hd.at_ 34 rfl rfl rfl)⟩) ?_
  refine Steps.val (G := Is (.bool true)) (lasts_is _) rfl (fun a w hm hd => ⟨wanted_plain rfl, st_assign rfl (hd.at_ 35 rfl rfl rfl)⟩) ?_
  intro a V hmid hall
  have h2 : a.eval (.tmp 8) = .bool true := hall 36 _ 8 rfl rfl
  have hdf : a.defers = [] := hmid.defers
  have hgr := hmid.grow
  clear hall hmid
  obtain ⟨tm, df⟩ := a
  simp only at hdf
  subst hdf
  go_wp2
  go_ret
  exact ⟨congrArg Ending.returned h2, HG8.out.trans hgr⟩
end Go.Proofs.Ytjcbdplbekecjaa
