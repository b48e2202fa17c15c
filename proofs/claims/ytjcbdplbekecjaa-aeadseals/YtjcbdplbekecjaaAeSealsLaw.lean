/-
  The law AeadSeals, walked.
-/
import Derived.Test.YtjcbdplbekecjaaAeOpened
namespace Go.Proofs.Ytjcbdplbekecjaa
open Go.RowKit

set_option maxHeartbeats 8000000 in
set_option maxRecDepth 100000 in
theorem aeadSeals_walk (key : List UInt8) (hk : key.length = 32) (nonce : List UInt8) (hn : nonce.length = 12) (A0 : Option Addr) (n0 c0 : Nat) (h : List UInt8) (A1 : Option Addr) (n1 c1 : Nat) (t : List UInt8) (w : World) (hr0 : Rd w (.slice A0 n0 c0) (bytesV h)) (hr1 : Rd w (.slice A1 n1 c1) (bytesV t)) :
    Calls Try.prog 3 #[.agg (bytesV key).toArray, .agg (bytesV nonce).toArray, .slice A0 n0 c0, .slice A1 n1 c1] w (Awake w) := by
  have hl0 : h.length = n0 := by have := hr0.len.1; rwa [bytesV_len] at this
  have hl1 : t.length = n1 := by have := hr1.len.1; rwa [bytesV_len] at this
  have HL0 := Lib.hid hl0
  have HL1 := Lib.hid hl1
  have HK := Lib.hid hk
  have HN := Lib.hid hn
  have HKL := Lib.hid (show (bytesV key).length = 32 by rw [bytesV_len, hk])
  have HNL := Lib.hid (show (bytesV nonce).length = 12 by rw [bytesV_len, hn])
  generalize hG : w.heap.size = G
  have HG := Lib.hid hG
  obtain ⟨W0, hW0⟩ : ∃ W, (w.alloc (.cells (bytesV key).toArray 22)).alloc (.cells (bytesV nonce).toArray 23) = W := ⟨_, rfl⟩
  have R0 := Lib.hid (show Row W0 G 22 (bytesV key) by rw [← hW0]; exact (Row.newAt w _ (bytesV key) hG).alloc _)
  have R1 := Lib.hid (show Row W0 (G + 1) 23 (bytesV nonce) by rw [← hW0]; exact Row.newAt _ _ (bytesV nonce) (by simp [hG]))
  have HGR := Lib.hid (show w.grownBy W0 none by rw [← hW0]; exact grown_alloc (grown_alloc (grown_refl _ _) _) _)
  have D0 := Lib.hid (hr0.grown0 HGR.out)
  have D1 := Lib.hid (hr1.grown0 HGR.out)
  have hmc := hr1.len.2.1
  have hcm := hr1.len.2.2
  unfold maxLen at hcm
  have hrh := hr0
  clear hk hn hr0 hr1 hl0 hl1
  by_cases hm0 : 60 < n0
  · have hdec : decide (60 < (n0 : Int)) = true := by simp; omega
    clear hm0
    go_enter Try.func3, Try.ntmps3
    go_wp2_with (go_at_call 8; refine (awake_any _).mono ?_; rintro e w5 ⟨rfl, hg5⟩)
    go_ret
    exact ⟨rfl, HGR.out.trans hg5⟩
  have hdec : decide (60 < (n0 : Int)) = false := by simp; omega
  by_cases hm1 : 60 < n1
  · have hdec1 : decide (60 < (n1 : Int)) = true := by simp; omega
    clear hm1
    go_enter Try.func3, Try.ntmps3
    go_wp2_with (go_at_call 8; refine (awake_any _).mono ?_; rintro e w5 ⟨rfl, hg5⟩)
    go_ret
    exact ⟨rfl, HGR.out.trans hg5⟩
  have hdec1 : decide (60 < (n1 : Int)) = false := by simp; omega
  have HM := Lib.hid (show n0 ≤ 60 ∧ n1 ≤ 60 by omega)
  clear hm0 hm1 hmc hcm
  go_enter Try.func3, Try.ntmps3
  have HC1 := Lib.hid (fun (v1 v2 : Value) (W : World) (h1 : IsB h v1 W) (h2 : IsB t v2 W) => Out.made ((seal_own key HK.out nonce HN.out v1 v2 h t W h1 h2 (by have := HM.out; have := HL0.out; omega) (by have := HM.out; have := HL1.out; omega)).mono fun _ _ h => h.out))
  have HC2 := Lib.hid (fun (v0 v1 v2 v3 : Value) (W : World) (h0 : IsB key v0 W) (h1 : IsB nonce v1 W) (h2 : IsB h v2 W) (h3 : IsB t v3 W) => Out.made (rseal_any v0 v1 v2 v3 key HK.out nonce HN.out h t (by have := HM.out; have := HL0.out; omega) (by have := HM.out; have := HL1.out; omega) W h0 h1 h2 h3))
  generalize sealB key nonce h t = S at *
  go_wp2
  refine wp_region_steps none (by kernel_rfl) (by kernel_rfl) (by kernel_rfl) ?_
  refine Steps.val (G := Is (.agg (bytesV key).toArray)) (lasts_is _) rfl (fun a w hm hd => ⟨wanted_plain rfl, st_load rfl G 22 _ (by rw [hm.outer 4 (by kernel_rfl)]; rfl) (R0.out.grown0 hm.grow) Try.underlying22 (by rw [HKL.out]; kernel_rfl)⟩) ?_
  refine Steps.val (G := Is (.agg (bytesV nonce).toArray)) (lasts_is _) rfl (fun a w hm hd => ⟨wanted_plain rfl, st_load rfl (G + 1) 23 _ (by rw [hm.outer 5 (by kernel_rfl)]; rfl) (R1.out.grown0 hm.grow) Try.underlying23 (by rw [HNL.out]; kernel_rfl)⟩) ?_
  refine Steps.val (G := IsB (h)) (lasts_bytes _) rfl (fun a w hm hd => ⟨wanted_plain rfl, st_move rfl (by rw [hm.outer 2 (by kernel_rfl)]; exact D0.out.grown0 hm.grow)⟩) ?_
  refine Steps.val (G := IsB (t)) (lasts_bytes _) rfl (fun a w hm hd => ⟨wanted_plain rfl, st_move rfl (by rw [hm.outer 3 (by kernel_rfl)]; exact D1.out.grown0 hm.grow)⟩) ?_
  refine Steps.call (G := IsB (S)) (lasts_bytes _) rfl 9 (fun a w hm hd => ⟨wanted_plain rfl, _, ex_call4 Try.func9 (by kernel_rfl) (by kernel_rfl) rfl, by
    have h2 : IsB (h) (a.eval (.tmp 20)) w := (hd.at_ 2 rfl rfl rfl)
    have h3 : IsB (t) (a.eval (.tmp 21)) w := (hd.at_ 3 rfl rfl rfl)
    rw [show a.eval (.tmp 18) = _ from (hd.at_ 0 rfl rfl rfl), show a.eval (.tmp 19) = _ from (hd.at_ 1 rfl rfl rfl)]
    exact HC1.out _ _ w h2 h3⟩) ?_
  refine Steps.val (G := Is (.string ⟨(S).toArray⟩)) (lasts_is _) rfl (fun a w hm hd => ⟨wanted_plain rfl, st_str rfl (hd.at_ 4 rfl rfl rfl)⟩) ?_
  refine Steps.val (G := IsB (key)) (lasts_bytes _) rfl (fun a w hm hd => ⟨wanted_plain rfl, st_all 32 rfl G 22 key (by rw [hm.outer 4 (by kernel_rfl)]; rfl) (R0.out.grown0 hm.grow) (by rw [← bytesV_len]; exact HKL.out) (by decide) Try.underlying22⟩) ?_
  refine Steps.val (G := IsB (nonce)) (lasts_bytes _) rfl (fun a w hm hd => ⟨wanted_plain rfl, st_all 12 rfl (G + 1) 23 nonce (by rw [hm.outer 5 (by kernel_rfl)]; rfl) (R1.out.grown0 hm.grow) (by rw [← bytesV_len]; exact HNL.out) (by decide) Try.underlying23⟩) ?_
  refine Steps.val (G := IsB (h)) (lasts_bytes _) rfl (fun a w hm hd => ⟨wanted_plain rfl, st_move rfl (by rw [hm.outer 2 (by kernel_rfl)]; exact D0.out.grown0 hm.grow)⟩) ?_
  refine Steps.val (G := IsB (t)) (lasts_bytes _) rfl (fun a w hm hd => ⟨wanted_plain rfl, st_move rfl (by rw [hm.outer 3 (by kernel_rfl)]; exact D1.out.grown0 hm.grow)⟩) ?_
  refine Steps.call (G := IsB (S)) (lasts_bytes _) rfl 10 (fun a w hm hd => ⟨wanted_plain rfl, _, ex_call4 Try.func10 (by kernel_rfl) (by kernel_rfl) rfl, by
    have h0 : IsB (key) (a.eval (.tmp 24)) w := (hd.at_ 6 rfl rfl rfl)
    have h1 : IsB (nonce) (a.eval (.tmp 25)) w := (hd.at_ 7 rfl rfl rfl)
    have h2 : IsB (h) (a.eval (.tmp 26)) w := (hd.at_ 8 rfl rfl rfl)
    have h3 : IsB (t) (a.eval (.tmp 27)) w := (hd.at_ 9 rfl rfl rfl)
    exact HC2.out _ _ _ _ w h0 h1 h2 h3⟩) ?_
  refine Steps.val (G := Is (.string ⟨(S).toArray⟩)) (lasts_is _) rfl (fun a w hm hd => ⟨wanted_plain rfl, st_str rfl (hd.at_ 10 rfl rfl rfl)⟩) ?_
  refine Steps.val (G := Is (.bool true)) (lasts_is _) rfl (fun a w hm hd => ⟨wanted_plain rfl, st_eqs rfl (hd.at_ 5 rfl rfl rfl) (hd.at_ 11 rfl rfl rfl) rfl⟩) ?_
  refine Steps.val (G := Is (.bool true)) (lasts_is _) rfl (fun a w hm hd => ⟨wanted_plain rfl, st_move rfl (hd.at_ 12 rfl rfl rfl)⟩) ?_
  refine Steps.call (G := Is (.bool true)) (lasts_is _) rfl 8 (fun a w hm hd => ⟨wanted_at rfl rfl (hd.at_ 13 rfl rfl rfl), _, ex_call0 Try.func8 (by kernel_rfl) (by kernel_rfl) rfl, by
    refine (awake_any w).mono ?_
    rintro e w' ⟨rfl, hg⟩
    exact ⟨_, rfl, hg, rfl⟩⟩) ?_
  refine Steps.val (G := Is (.bool true)) (lasts_is _) rfl (fun a w hm hd => ⟨wanted_plain rfl, st_pick rfl (hd.at_ 13 rfl rfl rfl) (hd.at_ 14 rfl rfl rfl)⟩) ?_
  refine Steps.val (G := Is (.bool true)) (lasts_is _) rfl (fun a w hm hd => ⟨wanted_plain rfl, st_assign rfl (hd.at_ 15 rfl rfl rfl)⟩) ?_
  intro a V hmid hall
  have h2 : a.eval (.tmp 8) = .bool true := hall 16 _ 8 rfl rfl
  have hdf : a.defers = [] := hmid.defers
  have hgr := hmid.grow
  clear hall hmid
  obtain ⟨tm, df⟩ := a
  simp only at hdf
  subst hdf
  go_wp2
  go_ret
  exact ⟨congrArg Ending.returned h2, HGR.out.trans hgr⟩
end Go.Proofs.Ytjcbdplbekecjaa
