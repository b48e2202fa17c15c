/-
  The walk of the law DeriveSame.
-/
import Derived.Test.YtmhcfbfdbminnaaDoorDerOps
namespace Go.Proofs.YtmhcfbfdbminnaaDoor
open Go.RowKit

set_option maxHeartbeats 4000000 in
theorem deriveSame_walk (A : Option Addr) (n c : Nat) (l : List UInt8) (A2 : Option Addr) (n2 c2 : Nat) (l2 : List UInt8) (w : World) (hT : Tab w) (hr : Rd w (.slice A n c) (bytesV l)) (hr2 : Rd w (.slice A2 n2 c2) (bytesV l2)) :
    Calls Tryd.prog 7 #[.slice A n c, .slice A2 n2 c2] w (Awake w) := by
  have HR := Lib.hid hr
  have HR2 := Lib.hid hr2
  have HT := Lib.hid hT
  clear hr hr2 hT
  rcases Nat.lt_or_ge 2000 n with h1 | h1
  · have hb : decide (2000 < (n : Int)) = true := by simp; omega
    go_enter Tryd.func7, Tryd.ntmps7
    go_wp2_with fail
    refine (awake_any _ HT.out).mono ?_
    rintro e w1 ⟨rfl, hg1⟩
    go_wp2
    go_ret
    exact ⟨rfl, hg1⟩
  · have hb : decide (2000 < (n : Int)) = false := by simp; omega
    rcases Nat.lt_or_ge 2000 n2 with h2 | h2
    · have hb2 : decide (2000 < (n2 : Int)) = true := by simp; omega
      go_enter Tryd.func7, Tryd.ntmps7
      go_wp2_with fail
      refine (awake_any _ HT.out).mono ?_
      rintro e w1 ⟨rfl, hg1⟩
      go_wp2
      go_ret
      exact ⟨rfl, hg1⟩
    · have hb2 : decide (2000 < (n2 : Int)) = false := by simp; omega
      have HN := Lib.hid (And.intro h1 h2)
      clear h1 h2
      go_enter Tryd.func7, Tryd.ntmps7
      go_wp2_with fail
      refine wp_region_steps none (by kernel_rfl) (by kernel_rfl) (by kernel_rfl) ?_
      refine Steps.val (G := Is (.slice A n c)) (lasts_is _) rfl (fun a w hm hd => ⟨wanted_plain rfl, _, ex_move rfl, (by rw [hm.outer 0 (by kernel_rfl)]; exact rfl)⟩) ?_
      refine Steps.val (G := Is (.slice A2 n2 c2)) (lasts_is _) rfl (fun a w hm hd => ⟨wanted_plain rfl, _, ex_move rfl, (by rw [hm.outer 1 (by kernel_rfl)]; exact rfl)⟩) ?_
      refine Steps.call (G := Is (.bool (decide (l = l2)))) (lasts_is _) rfl 15 (fun a w hm hd => ⟨wanted_plain rfl, _, ex_call2 Tryd.func15 (by kernel_rfl) (by kernel_rfl) rfl, by
        rw [show a.eval (.tmp 14) = _ from hd.at_ 0 rfl rfl rfl, show a.eval (.tmp 15) = _ from hd.at_ 1 rfl rfl rfl]
        refine (same_any A n c l A2 n2 c2 l2 w (HR.out.grown0 hm.grow) (HR2.out.grown0 hm.grow) (by have := HN.out; omega) (by have := HN.out; omega)).mono ?_
        rintro e w' ⟨rfl, hg⟩
        exact ⟨_, rfl, hg, rfl⟩⟩) ?_
      refine Steps.val (G := IsB l) (lasts_bytes _) rfl (fun a w hm hd => ⟨wanted_plain rfl, _, ex_move rfl, (by rw [hm.outer 0 (by kernel_rfl)]; exact HR.out.grown0 hm.grow)⟩) ?_
      refine Steps.val (G := Is (.string ⟨l.toArray⟩)) (lasts_is _) rfl (fun a w hm hd => ⟨wanted_plain rfl, _, ex_str rfl (hd.at_ 3 rfl rfl rfl), rfl⟩) ?_
      refine Steps.val (G := IsB l2) (lasts_bytes _) rfl (fun a w hm hd => ⟨wanted_plain rfl, _, ex_move rfl, (by rw [hm.outer 1 (by kernel_rfl)]; exact HR2.out.grown0 hm.grow)⟩) ?_
      refine Steps.val (G := Is (.string ⟨l2.toArray⟩)) (lasts_is _) rfl (fun a w hm hd => ⟨wanted_plain rfl, _, ex_str rfl (hd.at_ 5 rfl rfl rfl), rfl⟩) ?_
      refine Steps.val (G := Is (.bool (decide (l = l2)))) (lasts_is _) rfl (fun a w hm hd => ⟨wanted_plain rfl, _, ex_eqS rfl (hd.at_ 4 rfl rfl rfl) (hd.at_ 6 rfl rfl rfl), rfl⟩) ?_
      refine Steps.val (G := Is (.bool true)) (lasts_is _) rfl (fun a w hm hd => ⟨wanted_plain rfl, _, ex_eqb rfl (hd.at_ 2 rfl rfl rfl) (hd.at_ 7 rfl rfl rfl), rfl⟩) ?_
      refine Steps.val (G := Is (.bool true)) (lasts_is _) rfl (fun a w hm hd => ⟨wanted_plain rfl, _, ex_move rfl, hd.at_ 8 rfl rfl rfl⟩) ?_
      refine Steps.call (G := Is (.bool true)) (lasts_is _) rfl 10 (fun a w hm hd => ⟨wanted_at rfl rfl (hd.at_ 9 rfl rfl rfl), _, ex_call0 Tryd.func10 (by kernel_rfl) (by kernel_rfl) rfl, by
        refine (awake_any w (HT.out.grown hm.grow)).mono ?_
        rintro e w' ⟨rfl, hg⟩
        exact ⟨_, rfl, hg, rfl⟩⟩) ?_
      refine Steps.val (G := Is (.bool true)) (lasts_is _) rfl (fun a w hm hd => ⟨wanted_plain rfl, _, ex_pick rfl (hd.at_ 9 rfl rfl rfl) (hd.at_ 10 rfl rfl rfl), rfl⟩) ?_
      refine Steps.val (G := Is (.bool true)) (lasts_is _) rfl (fun a w hm hd => ⟨wanted_plain rfl, _, ex_assign rfl, hd.at_ 11 rfl rfl rfl⟩) ?_
      intro a w2 hmid hall
      have h2 : a.eval (.tmp 4) = .bool true := hall 12 _ 4 rfl rfl
      have hdf : a.defers = [] := hmid.defers
      have hgr := hmid.grow
      clear hall hmid
      obtain ⟨tm, df⟩ := a
      simp only at hdf
      subst hdf
      go_wp2
      go_ret
      exact ⟨congrArg Ending.returned h2, hgr⟩
end Go.Proofs.YtmhcfbfdbminnaaDoor
