/-
  The walk of the law DeriveCodes.
-/
import Derived.Test.YtmhcfbfdbminnaaDoorDerOps
import Derived.Test.YtmhcfbfdbminnaaDoorDerPartsLaw
import Derived.Test.YtmhcfbfdbminnaaDoorRefCode
namespace Go.Proofs.YtmhcfbfdbminnaaDoor
open Go.RowKit

set_option maxHeartbeats 4000000 in
theorem deriveCodes_walk (A0 : Option Addr) (n0 c0 : Nat) (l0 : List UInt8) (A1 : Option Addr) (n1 c1 : Nat) (l1 : List UInt8) (w : World) (hT : Tab w) (hr0 : Rd w (.slice A0 n0 c0) (bytesV l0)) (hr1 : Rd w (.slice A1 n1 c1) (bytesV l1)) :
    Calls Tryd.prog 3 #[.slice A0 n0 c0, .slice A1 n1 c1] w (Awake w) := by
  have HR0 := Lib.hid hr0
  have HR1 := Lib.hid hr1
  have HT := Lib.hid hT
  clear hr0 hr1 hT
  by_cases ha : 200 < n0
  · have ba : decide (200 < (n0 : Int)) = true := by simp; omega
    go_enter Tryd.func3, Tryd.ntmps3
    go_wp2_with fail
    refine (awake_any _ HT.out).mono ?_
    rintro e w1 ⟨rfl, hg1⟩
    go_wp2
    go_ret
    exact ⟨rfl, hg1⟩
  · have ba : decide (200 < (n0 : Int)) = false := by simp; omega
    by_cases hb : 200 < n1
    · have bb : decide (200 < (n1 : Int)) = true := by simp; omega
      go_enter Tryd.func3, Tryd.ntmps3
      go_wp2_with fail
      refine (awake_any _ HT.out).mono ?_
      rintro e w1 ⟨rfl, hg1⟩
      go_wp2
      go_ret
      exact ⟨rfl, hg1⟩
    · have bb : decide (200 < (n1 : Int)) = false := by simp; omega
      have HN := Lib.hid (show n0 ≤ 200 ∧ n1 ≤ 200 by omega)
      have hl1 := HR1.out.len.1
      rw [bytesV_len] at hl1
      have HC1 := Lib.hid (code_one A0 n0 c0 l0 (.slice A1 n1 c1) l1 w w.heap.size rfl HT.out HR0.out HR1.out (by omega) (by omega))
      have HL32 := Lib.hid (show (bytesV (hmac l0 l1)).length = 32 by rw [bytesV_len, hmac_len])
      clear ha hb hl1
      go_enter Tryd.func3, Tryd.ntmps3
      go_wp2_with fail
      refine HC1.out.mono ?_
      rintro e w6 ⟨rfl, hg6⟩
      have HG6 := Lib.hid (show w.grownBy w6 none from (grown_alloc (grown_refl _ _) _).trans hg6)
      clear hg6 HC1
      go_wp2_with (refine wpList_store_row _ rfl rfl _ _ _ rfl w6.heap.size 24 (noughts8 32) (bytesV (hmac l0 l1)) rfl rfl (Row.new w6 24 (noughts8 32)) ?_ (bytesV_one _) ?_ ?_)
      · rw [HL32.out]; rfl
      · rw [HL32.out]; kernel_rfl
      intro w7 hr7 hg7
      have HGR := Lib.hid (HG6.out.trans (grown_own (grown_alloc (grown_refl _ _) _) hg7 (Nat.le_refl _)))
      have R7 := Lib.hid hr7
      clear hr7 hg7 HG6
      generalize w6.heap.size = g2 at *
      generalize hX : hmac l0 l1 = X at *
      go_wp2_with fail
      refine wp_region_steps none (by kernel_rfl) (by kernel_rfl) (by kernel_rfl) ?_
      refine Steps.val (G := IsB X) (lasts_bytes _) rfl (fun a w hm hd => ⟨wanted_plain rfl, _, ex_slice32 rfl (by rw [hm.outer 5 (by kernel_rfl)]; rfl), (R7.out.grown0 hm.grow).rds 32 32 HL32.out (by decide) (by decide)⟩) ?_
      refine Steps.val (G := Is (.string ⟨X.toArray⟩)) (lasts_is _) rfl (fun a w hm hd => ⟨wanted_plain rfl, _, ex_str rfl (hd.at_ 0 rfl rfl rfl), rfl⟩) ?_
      refine Steps.val (G := Is (.slice A0 n0 c0)) (lasts_is _) rfl (fun a w hm hd => ⟨wanted_plain rfl, _, ex_move rfl, (by rw [hm.outer 0 (by kernel_rfl)]; exact rfl)⟩) ?_
      refine Steps.val (G := Is (.slice A1 n1 c1)) (lasts_is _) rfl (fun a w hm hd => ⟨wanted_plain rfl, _, ex_move rfl, (by rw [hm.outer 1 (by kernel_rfl)]; exact rfl)⟩) ?_
      refine Steps.call (G := IsB X) (lasts_bytes _) rfl 12 (fun a w hm hd => ⟨wanted_plain rfl, _, ex_call2 Tryd.func12 (by kernel_rfl) (by kernel_rfl) rfl, by
        rw [show a.eval (.tmp 21) = _ from hd.at_ 2 rfl rfl rfl, show a.eval (.tmp 22) = _ from hd.at_ 3 rfl rfl rfl]
        have hrc := refCode_own A0 n0 c0 l0 A1 n1 c1 l1 w (HR0.out.grown0 (HGR.out.trans hm.grow)) (HR1.out.grown0 (HGR.out.trans hm.grow)) (by have := HN.out; omega) (by have := HN.out; omega)
        rw [hX] at hrc
        refine hrc.mono ?_
        rintro e w' ⟨u, rfl, ho, hg⟩
        exact ⟨u, rfl, hg, Rd.of_own ho⟩⟩) ?_
      refine Steps.val (G := Is (.string ⟨X.toArray⟩)) (lasts_is _) rfl (fun a w hm hd => ⟨wanted_plain rfl, _, ex_str rfl (hd.at_ 4 rfl rfl rfl), rfl⟩) ?_
      refine Steps.val (G := Is (.bool true)) (lasts_is _) rfl (fun a w hm hd => ⟨wanted_plain rfl, _, ex_eqs rfl (hd.at_ 1 rfl rfl rfl) (hd.at_ 5 rfl rfl rfl), rfl⟩) ?_
      refine Steps.val (G := Is (.bool true)) (lasts_is _) rfl (fun a w hm hd => ⟨wanted_plain rfl, _, ex_move rfl, hd.at_ 6 rfl rfl rfl⟩) ?_
      refine Steps.call (G := Is (.bool true)) (lasts_is _) rfl 10 (fun a w hm hd => ⟨wanted_at rfl rfl (hd.at_ 7 rfl rfl rfl), _, ex_call0 Tryd.func10 (by kernel_rfl) (by kernel_rfl) rfl, by
        refine (awake_any w (HT.out.grown (HGR.out.trans hm.grow))).mono ?_
        rintro e w' ⟨rfl, hg⟩
        exact ⟨_, rfl, hg, rfl⟩⟩) ?_
      refine Steps.val (G := Is (.bool true)) (lasts_is _) rfl (fun a w hm hd => ⟨wanted_plain rfl, _, ex_pick rfl (hd.at_ 7 rfl rfl rfl) (hd.at_ 8 rfl rfl rfl), rfl⟩) ?_
      refine Steps.val (G := Is (.bool true)) (lasts_is _) rfl (fun a w hm hd => ⟨wanted_plain rfl, _, ex_assign rfl, hd.at_ 9 rfl rfl rfl⟩) ?_
      intro a w2 hmid hall
      have h2 : a.eval (.tmp 4) = .bool true := hall 10 _ 4 rfl rfl
      have hdf : a.defers = [] := hmid.defers
      have hgr := hmid.grow
      clear hall hmid
      obtain ⟨tm, df⟩ := a
      simp only at hdf
      subst hdf
      go_wp2
      go_ret
      exact ⟨congrArg Ending.returned h2, HGR.out.trans hgr⟩
end Go.Proofs.YtmhcfbfdbminnaaDoor
