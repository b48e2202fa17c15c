/-
  The law PolyTags, walked.
-/
import Derived.Test.YtnekdjejbobmoaaPolOps
import Derived.Test.YtnekdjejbobmoaaRpTag
namespace Go.Proofs.Ytnekdjejbobmoaa
open Go.RowKit

set_option maxHeartbeats 8000000 in
theorem polyTags_walk (key : List UInt8) (hk : key.length = 32) (A : Option Addr) (m c : Nat) (b : List UInt8) (w : World) (hr : Rd w (.slice A m c) (bytesV b)) :
    Calls Try.prog 3 #[.agg (bytesV key).toArray, .slice A m c] w (Awake w) := by
  have hbl : b.length = m := by have := hr.len.1; rwa [bytesV_len] at this
  have HBL := Lib.hid hbl
  have HK := Lib.hid hk
  have HKL := Lib.hid (show (bytesV key).length = 32 by rw [bytesV_len, hk])
  generalize hG : w.heap.size = G
  have HG := Lib.hid hG
  obtain ⟨W0, hW0⟩ : ∃ W, w.alloc (.cells (bytesV key).toArray 22) = W := ⟨_, rfl⟩
  have R0 := Lib.hid (show Row W0 G 22 (bytesV key) by rw [← hW0]; exact Row.newAt w _ (bytesV key) hG)
  have HGR := Lib.hid (show w.grownBy W0 none by rw [← hW0]; exact grown_alloc (grown_refl _ _) _)
  have HRD := Lib.hid hr
  have hcm := hr.len.2.2
  unfold maxLen at hcm
  have hmc := hr.len.2.1
  clear hr hbl hk
  by_cases hm : 100 < m
  · have hdec : decide (100 < (m : Int)) = true := by simp; omega
    clear hm
    go_enter Try.func3, Try.ntmps3
    go_wp2_with (go_at_call 10; refine (awake_any _).mono ?_; rintro e w5 ⟨rfl, hg5⟩)
    go_ret
    exact ⟨rfl, HGR.out.trans hg5⟩
  · have hdec : decide (100 < (m : Int)) = false := by simp; omega
    have hm5 : m ≤ 100 := by omega
    clear hm
    have H1 := Lib.hid (tag_any key HK.out (.slice A m c) b W0 (HRD.out.grown0 HGR.out) (by rw [HBL.out]; omega))
    have H2 := Lib.hid (fun v1 v2 W (h1 : Rd W v1 (bytesV key)) (h2 : Rd W v2 (bytesV b)) => rtag_any v1 v2 key b HK.out (by rw [HBL.out]; exact hm5) W h1 h2)
    have HTL := Lib.hid (show (bytesV (tagB key b)).length = 16 by rw [bytesV_len, tagB_len])
    have HTO := Lib.hid (fun x hx => bytesV_one (tagB key b) x hx)
    generalize tagB key b = X at *
    go_enter Try.func3, Try.ntmps3
    go_wp2_with (refine wpList_load_row _ rfl _ 22 rfl G 22 (bytesV key) _ rfl R0.out Try.underlying22 rfl (by rw [HKL.out]; kernel_rfl) ?_)
    clear hG hW0
    refine H1.out.mono ?_
    rintro e w1 ⟨rfl, hg1⟩
    have Q0 := Lib.hid (R0.out.grown0 hg1)
    have HGQ := Lib.hid (HGR.out.trans hg1)
    have hlt1 := Q0.out.lt
    clear hg1 R0 HGR H1
    go_wp2_with (refine wpList_store_row _ rfl rfl _ _ 25 rfl w1.heap.size 25 (noughts8 16) (bytesV X) rfl rfl (Row.new w1 25 (noughts8 16)) (by rw [HTL.out]; rfl) HTO.out (by rw [HTL.out]; kernel_rfl) ?_; intro w2 hr2 hg2)
    have hsw := HGQ.out.size
    have K0 := Lib.hid ((Q0.out.alloc (.cells (noughts8 16).toArray 25)).grown hg2 (by simp; omega))
    have K1 := Lib.hid hr2
    have HGK := Lib.hid (grown_own (grown_alloc HGQ.out (.cells (noughts8 16).toArray 25)) hg2 hsw)
    have HRK := Lib.hid (HRD.out.grown0 HGK.out)
    clear hr2 hg2 hlt1 hsw Q0 HGQ
    generalize w1.heap.size = gX at *
    refine wp_region_steps none (by kernel_rfl) (by kernel_rfl) (by kernel_rfl) ?_
    refine Steps.val (G := IsB X) (lasts_bytes _) rfl (fun a w hm hd => ⟨wanted_plain rfl, _, ex_all16 rfl (by rw [hm.outer 5 (by kernel_rfl)]; rfl), (K1.out.grown0 hm.grow).rds 16 16 HTL.out (by decide) (by decide)⟩) ?_
    refine Steps.val (G := Is (.string ⟨(X).toArray⟩)) (lasts_is _) rfl (fun a w hm hd => ⟨wanted_plain rfl, _, ex_str rfl (hd.at_ 0 rfl rfl rfl), rfl⟩) ?_
    refine Steps.val (G := IsB key) (lasts_bytes _) rfl (fun a w hm hd => ⟨wanted_plain rfl, _, ex_all32 rfl (by rw [hm.outer 2 (by kernel_rfl)]; rfl), (K0.out.grown0 hm.grow).rds 32 32 HKL.out (by decide) (by decide)⟩) ?_
    refine Steps.val (G := IsB b) (lasts_bytes _) rfl (fun a w hm hd => ⟨wanted_plain rfl, _, ex_move rfl, (by rw [hm.outer 1 (by kernel_rfl)]; exact HRK.out.grown0 hm.grow)⟩) ?_
    refine Steps.call (G := IsB X) (lasts_bytes _) rfl 12 (fun a w hm hd => ⟨wanted_plain rfl, _, ex_call2 Try.func12 (by kernel_rfl) (by kernel_rfl) rfl, by
      have h1 : IsB key (a.eval (.tmp 15)) w := hd.at_ 2 rfl rfl rfl
      have h2 : IsB b (a.eval (.tmp 16)) w := hd.at_ 3 rfl rfl rfl
      refine (H2.out _ _ w h1 h2).mono ?_
      rintro e w' ⟨v, rfl, hv, hg⟩
      exact ⟨v, rfl, hg, hv⟩⟩) ?_
    refine Steps.val (G := Is (.string ⟨(X).toArray⟩)) (lasts_is _) rfl (fun a w hm hd => ⟨wanted_plain rfl, _, ex_str rfl (hd.at_ 4 rfl rfl rfl), rfl⟩) ?_
    refine Steps.val (G := Is (.bool true)) (lasts_is _) rfl (fun a w hm hd => ⟨wanted_plain rfl, _, ex_eqs rfl (hd.at_ 1 rfl rfl rfl) (hd.at_ 5 rfl rfl rfl), rfl⟩) ?_
    refine Steps.val (G := Is (.bool true)) (lasts_is _) rfl (fun a w hm hd => ⟨wanted_plain rfl, _, ex_move rfl, hd.at_ 6 rfl rfl rfl⟩) ?_
    refine Steps.call (G := Is (.bool true)) (lasts_is _) rfl 10 (fun a w hm hd => ⟨wanted_at rfl rfl (hd.at_ 7 rfl rfl rfl), _, ex_call0 Try.func10 (by kernel_rfl) (by kernel_rfl) rfl, by
      refine (awake_any w).mono ?_
      rintro e w' ⟨rfl, hg⟩
      exact ⟨_, rfl, hg, rfl⟩⟩) ?_
    refine Steps.val (G := Is (.bool true)) (lasts_is _) rfl (fun a w hm hd => ⟨wanted_plain rfl, _, ex_pick rfl (hd.at_ 7 rfl rfl rfl) (hd.at_ 8 rfl rfl rfl), rfl⟩) ?_
    refine Steps.val (G := Is (.bool true)) (lasts_is _) rfl (fun a w hm hd => ⟨wanted_plain rfl, _, ex_assign rfl, hd.at_ 9 rfl rfl rfl⟩) ?_
    intro a V hmid hall
    have h2 : a.eval (.tmp 4) = .bool true := hall 10 _ 4 rfl rfl
    have hdf : a.defers = [] := hmid.defers
    have hgr := hmid.grow
    clear hall hmid
    obtain ⟨tm, df⟩ := a
    simp only at hdf
    subst hdf
    go_wp2
    go_ret
    exact ⟨congrArg Ending.returned h2, HGK.out.trans hgr⟩
end Go.Proofs.Ytnekdjejbobmoaa
