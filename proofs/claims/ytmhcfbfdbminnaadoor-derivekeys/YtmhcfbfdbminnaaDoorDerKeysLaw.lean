/-
  The walk of the law DeriveKeys.
-/
import Derived.Test.YtmhcfbfdbminnaaDoorDerOps
import Derived.Test.YtmhcfbfdbminnaaDoorRefKey
namespace Go.Proofs.YtmhcfbfdbminnaaDoor
open Go.RowKit

set_option maxHeartbeats 4000000 in
theorem deriveKeys_walk (A0 : Option Addr) (n0 c0 : Nat) (l0 : List UInt8) (A1 : Option Addr) (n1 c1 : Nat) (l1 : List UInt8) (A2 : Option Addr) (n2 c2 : Nat) (l2 : List UInt8) (x : Int) (w : World) (hT : Tab w) (hr0 : Rd w (.slice A0 n0 c0) (bytesV l0)) (hr1 : Rd w (.slice A1 n1 c1) (bytesV l1)) (hr2 : Rd w (.slice A2 n2 c2) (bytesV l2)) :
    Calls Tryd.prog 5 #[.slice A0 n0 c0, .slice A1 n1 c1, .slice A2 n2 c2, .int .i64 x] w (Awake w) := by
  have HR0 := Lib.hid hr0
  have HR1 := Lib.hid hr1
  have HR2 := Lib.hid hr2
  have HT := Lib.hid hT
  clear hr0 hr1 hr2 hT
  by_cases ha : 100 < n0
  · have ba : decide (100 < (n0 : Int)) = true := by simp; omega
    go_enter Tryd.func5, Tryd.ntmps5
    go_wp2_with fail
    refine (awake_any _ HT.out).mono ?_
    rintro e w1 ⟨rfl, hg1⟩
    go_wp2
    go_ret
    exact ⟨rfl, hg1⟩
  · have ba : decide (100 < (n0 : Int)) = false := by simp; omega
    by_cases hb : 100 < n1
    · have bb : decide (100 < (n1 : Int)) = true := by simp; omega
      go_enter Tryd.func5, Tryd.ntmps5
      go_wp2_with fail
      refine (awake_any _ HT.out).mono ?_
      rintro e w1 ⟨rfl, hg1⟩
      go_wp2
      go_ret
      exact ⟨rfl, hg1⟩
    · have bb : decide (100 < (n1 : Int)) = false := by simp; omega
      by_cases hc : 100 < n2
      · have bc : decide (100 < (n2 : Int)) = true := by simp; omega
        go_enter Tryd.func5, Tryd.ntmps5
        go_wp2_with fail
        refine (awake_any _ HT.out).mono ?_
        rintro e w1 ⟨rfl, hg1⟩
        go_wp2
        go_ret
        exact ⟨rfl, hg1⟩
      · have bc : decide (100 < (n2 : Int)) = false := by simp; omega
        by_cases hd : x < 0
        · have bd : decide (x < 0) = true := by simp; omega
          have HK := Lib.hid (key_none A0 n0 c0 A1 n1 c1 A2 n2 c2 x w (by omega))
          go_enter Tryd.func5, Tryd.ntmps5
          go_wp2_with fail
          refine HK.out.mono ?_
          rintro e w1 ⟨rfl, hg1⟩
          have HAW := Lib.hid (awake_any w1 (HT.out.grown hg1))
          have HG1 := Lib.hid hg1
          clear hg1 HK
          go_wp2_with fail
          refine HAW.out.mono ?_
          rintro e w2 ⟨rfl, hg2⟩
          go_wp2
          go_ret
          exact ⟨rfl, HG1.out.trans hg2⟩
        · have bd : decide (x < 0) = false := by simp; omega
          by_cases he : 8160 < x
          · have be : decide (8160 < x) = true := by simp; omega
            have HK := Lib.hid (key_none A0 n0 c0 A1 n1 c1 A2 n2 c2 x w (by omega))
            go_enter Tryd.func5, Tryd.ntmps5
            go_wp2_with fail
            refine HK.out.mono ?_
            rintro e w1 ⟨rfl, hg1⟩
            have HAW := Lib.hid (awake_any w1 (HT.out.grown hg1))
            have HG1 := Lib.hid hg1
            clear hg1 HK
            go_wp2_with fail
            refine HAW.out.mono ?_
            rintro e w2 ⟨rfl, hg2⟩
            go_wp2
            go_ret
            exact ⟨rfl, HG1.out.trans hg2⟩
          · have be : decide (8160 < x) = false := by simp; omega
            by_cases hf : 100 < x
            · have bf : decide (100 < x) = true := by simp; omega
              go_enter Tryd.func5, Tryd.ntmps5
              go_wp2_with fail
              refine (awake_any _ HT.out).mono ?_
              rintro e w1 ⟨rfl, hg1⟩
              go_wp2
              go_ret
              exact ⟨rfl, hg1⟩
            · have bf : decide (100 < x) = false := by simp; omega
              obtain ⟨n, rfl⟩ := Int.eq_ofNat_of_zero_le (show 0 ≤ x by omega)
              have HN := Lib.hid (show n0 ≤ 100 ∧ n1 ≤ 100 ∧ n2 ≤ 100 ∧ n ≤ 100 by omega)
              obtain ⟨w0, hw0⟩ : ∃ w0, w0 = w := ⟨_, rfl⟩
              have HGR := Lib.hid (show w.grownBy w none from grown_refl _ _)
              clear ha hb hc hd he hf hw0
              go_enter Tryd.func5, Tryd.ntmps5
              go_wp2_with fail
              refine wp_region_steps none (by kernel_rfl) (by kernel_rfl) (by kernel_rfl) ?_
              refine Steps.val (G := Is (.slice A0 n0 c0)) (lasts_is _) rfl (fun a w hm hd => ⟨wanted_plain rfl, _, ex_move rfl, (by rw [hm.outer 0 (by kernel_rfl)]; exact rfl)⟩) ?_
              refine Steps.val (G := Is (.slice A1 n1 c1)) (lasts_is _) rfl (fun a w hm hd => ⟨wanted_plain rfl, _, ex_move rfl, (by rw [hm.outer 1 (by kernel_rfl)]; exact rfl)⟩) ?_
              refine Steps.val (G := Is (.slice A2 n2 c2)) (lasts_is _) rfl (fun a w hm hd => ⟨wanted_plain rfl, _, ex_move rfl, (by rw [hm.outer 2 (by kernel_rfl)]; exact rfl)⟩) ?_
              refine Steps.val (G := Is (.int .i64 (n : Int))) (lasts_is _) rfl (fun a w hm hd => ⟨wanted_plain rfl, _, ex_move rfl, (by rw [hm.outer 3 (by kernel_rfl)]; exact rfl)⟩) ?_
              refine Steps.call (G := IsB (derived l0 l1 l2 n)) (lasts_bytes _) rfl 13 (fun a w hm hd => ⟨wanted_plain rfl, _, ex_call4 Tryd.func13 (by kernel_rfl) (by kernel_rfl) rfl, by
                rw [show a.eval (.tmp 42) = _ from hd.at_ 0 rfl rfl rfl, show a.eval (.tmp 43) = _ from hd.at_ 1 rfl rfl rfl, show a.eval (.tmp 44) = _ from hd.at_ 2 rfl rfl rfl, show a.eval (.tmp 45) = _ from hd.at_ 3 rfl rfl rfl]
                refine (key_any A0 n0 c0 l0 A1 n1 c1 l1 A2 n2 c2 l2 n w (HT.out.grown hm.grow) (HR0.out.grown0 hm.grow) (HR1.out.grown0 hm.grow) (HR2.out.grown0 hm.grow) (by have := HN.out; omega) (by have := HN.out; omega) (by have := HN.out; omega) (by have := HN.out; omega)).mono ?_
                rintro e w' ⟨u, rfl, hr, hg, _⟩
                exact ⟨u, rfl, hg, hr⟩⟩) ?_
              refine Steps.val (G := Is (.string ⟨(derived l0 l1 l2 n).toArray⟩)) (lasts_is _) rfl (fun a w hm hd => ⟨wanted_plain rfl, _, ex_str rfl (hd.at_ 4 rfl rfl rfl), rfl⟩) ?_
              refine Steps.val (G := Is (.slice A0 n0 c0)) (lasts_is _) rfl (fun a w hm hd => ⟨wanted_plain rfl, _, ex_move rfl, (by rw [hm.outer 0 (by kernel_rfl)]; exact rfl)⟩) ?_
              refine Steps.val (G := Is (.slice A1 n1 c1)) (lasts_is _) rfl (fun a w hm hd => ⟨wanted_plain rfl, _, ex_move rfl, (by rw [hm.outer 1 (by kernel_rfl)]; exact rfl)⟩) ?_
              refine Steps.val (G := Is (.slice A2 n2 c2)) (lasts_is _) rfl (fun a w hm hd => ⟨wanted_plain rfl, _, ex_move rfl, (by rw [hm.outer 2 (by kernel_rfl)]; exact rfl)⟩) ?_
              refine Steps.val (G := Is (.int .i64 (n : Int))) (lasts_is _) rfl (fun a w hm hd => ⟨wanted_plain rfl, _, ex_move rfl, (by rw [hm.outer 3 (by kernel_rfl)]; exact rfl)⟩) ?_
              refine Steps.call (G := IsB (derived l0 l1 l2 n)) (lasts_bytes _) rfl 14 (fun a w hm hd => ⟨wanted_plain rfl, _, ex_call4 Tryd.func14 (by kernel_rfl) (by kernel_rfl) rfl, by
                rw [show a.eval (.tmp 48) = _ from hd.at_ 6 rfl rfl rfl, show a.eval (.tmp 49) = _ from hd.at_ 7 rfl rfl rfl, show a.eval (.tmp 50) = _ from hd.at_ 8 rfl rfl rfl, show a.eval (.tmp 51) = _ from hd.at_ 9 rfl rfl rfl]
                refine (refKey_any A0 n0 c0 l0 A1 n1 c1 l1 A2 n2 c2 l2 n w (HR0.out.grown0 hm.grow) (HR1.out.grown0 hm.grow) (HR2.out.grown0 hm.grow) (by have := HN.out; omega) (by have := HN.out; omega) (by have := HN.out; omega) (by have := HN.out; omega)).mono ?_
                rintro e w' ⟨u, rfl, hr, hg⟩
                exact ⟨u, rfl, hg, hr⟩⟩) ?_
              refine Steps.val (G := Is (.string ⟨(derived l0 l1 l2 n).toArray⟩)) (lasts_is _) rfl (fun a w hm hd => ⟨wanted_plain rfl, _, ex_str rfl (hd.at_ 10 rfl rfl rfl), rfl⟩) ?_
              refine Steps.val (G := Is (.bool true)) (lasts_is _) rfl (fun a w hm hd => ⟨wanted_plain rfl, _, ex_eqs rfl (hd.at_ 5 rfl rfl rfl) (hd.at_ 11 rfl rfl rfl), rfl⟩) ?_
              refine Steps.val (G := Is (.bool true)) (lasts_is _) rfl (fun a w hm hd => ⟨wanted_plain rfl, _, ex_move rfl, hd.at_ 12 rfl rfl rfl⟩) ?_
              refine Steps.call (G := Is (.bool true)) (lasts_is _) rfl 10 (fun a w hm hd => ⟨wanted_at rfl rfl (hd.at_ 13 rfl rfl rfl), _, ex_call0 Tryd.func10 (by kernel_rfl) (by kernel_rfl) rfl, by
                refine (awake_any w (HT.out.grown (HGR.out.trans hm.grow))).mono ?_
                rintro e w' ⟨rfl, hg⟩
                exact ⟨_, rfl, hg, rfl⟩⟩) ?_
              refine Steps.val (G := Is (.bool true)) (lasts_is _) rfl (fun a w hm hd => ⟨wanted_plain rfl, _, ex_pick rfl (hd.at_ 13 rfl rfl rfl) (hd.at_ 14 rfl rfl rfl), rfl⟩) ?_
              refine Steps.val (G := Is (.bool true)) (lasts_is _) rfl (fun a w hm hd => ⟨wanted_plain rfl, _, ex_assign rfl, hd.at_ 15 rfl rfl rfl⟩) ?_
              intro a w2 hmid hall
              have h2 : a.eval (.tmp 8) = .bool true := hall 16 _ 8 rfl rfl
              have hdf : a.defers = [] := hmid.defers
              have hgr := hmid.grow
              clear hall hmid
              obtain ⟨tm, df⟩ := a
              simp only at hdf
              subst hdf
              go_wp2
              go_ret
              exact ⟨congrArg Ending.returned h2, HGR.out.trans hgr⟩
end Go.Proofs.YtmhcfbfdbminnaaDoor
