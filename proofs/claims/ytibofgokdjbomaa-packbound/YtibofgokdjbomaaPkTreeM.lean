/-
  pack's model over this program: the tree of the next literal.
-/
import Derived.Test.YtibofgokdjbomaaPkLen
namespace Go.Proofs.Ytibofgokdjbomaa
set_option maxRecDepth 1000000
open Go.RowKit

set_option maxHeartbeats 4000000 in
theorem treeM_any (gm : Nat) (x : Kst) (w : World) (h : Mo w gm x) (hl : x.L.length = 2322) (hn : x.h.length ≤ 100000) :
    Calls Try.prog 74 #[.pointer (some ⟨gm, 0, none⟩)] w (Val (.slice (some ⟨gm, 2 + 256 * upper x.h, none⟩) 256 256) w) := by
  have HM := Lib.hid h
  have HB := Lib.hid (fun W (hW : Mo W gm x) => Val.made (byteBack_any gm 1 x W hW hl ⟨Nat.le_refl _, by decide⟩ hn))
  have HC := Lib.hid (UInt8.toNat_lt (backB x.h 1))
  rw [← backB_one]
  generalize (backB x.h 1).toNat = c at *
  clear h hl hn
  go_enter Try.func74, Try.ntmps74
  go_wp2
  refine wp_region_walk3 8 [] dis_nil (by kernel_rfl) (by kernel_rfl) (by kernel_rfl) ?_
  simp only [List.take_succ_cons, List.take_zero, List.drop_succ_cons, List.drop_zero]
  refine Walk.val (G := Is (.pointer (some ⟨gm, 0, none⟩))) (stays_is _ _) rfl rfl (fun a w hm hd => ⟨wanted_plain rfl, st_move rfl (by rw [hm.outer 0 (by kernel_rfl)]; rfl)⟩) ?_
  refine Walk.val (G := Is (.pointer (some ⟨gm, 0, none⟩))) (stays_is _ _) rfl rfl (fun a w hm hd => ⟨wanted_plain rfl, st_move rfl (by rw [hm.outer 0 (by kernel_rfl)]; rfl)⟩) ?_
  refine Walk.call (G := Is (.int .u8 (c : Int))) (stays_is _ _) rfl 79 rfl (fun a w hm ha hd => ⟨wanted_plain rfl, _, ex_call2 Try.func79 (by kernel_rfl) (by kernel_rfl) rfl, by rw [show a.eval (.tmp 4) = _ from (hd.at_ 1 rfl rfl rfl rfl)]; exact HB.out w (HM.out.grown0 (GrownX.none2 hm.grow))⟩) ?_
  refine Walk.val (G := Is (.int .u8 ((c / 32 : Nat) : Int))) (stays_is _ _) rfl rfl (fun a w hm hd => ⟨wanted_plain rfl, st_shr5 rfl (hd.at_ 2 rfl rfl rfl rfl) HC.out⟩) ?_
  refine Walk.val (G := Is (.pointer (some ⟨gm, 0, none⟩))) (stays_is _ _) rfl rfl (fun a w hm hd => ⟨wanted_plain rfl, st_nil rfl (hd.at_ 0 rfl rfl rfl rfl)⟩) ?_
  refine Walk.val (G := Is (.pointer (some ⟨gm, 2, none⟩))) (stays_is _ _) rfl rfl (fun a w hm hd => ⟨wanted_plain rfl, st_fieldM 1 (by decide) rfl (hd.at_ 4 rfl rfl rfl rfl)⟩) ?_
  refine Walk.val (G := Is (.pointer (some ⟨gm, 2 + 256 * (c / 32), none⟩))) (stays_is _ _) rfl rfl (fun a w hm hd => ⟨wanted_plain rfl, st_idxL rfl (hd.at_ 5 rfl rfl rfl rfl) (hd.at_ 3 rfl rfl rfl rfl) (by have := HC.out; omega)⟩) ?_
  refine Walk.val (G := Is (.slice (some ⟨gm, 2 + 256 * (c / 32), none⟩) 256 256)) (stays_is _ _) rfl rfl (fun a w hm hd => ⟨wanted_plain rfl, st_sliceC rfl (hd.at_ 6 rfl rfl rfl rfl)⟩) ?_
  intro a9 V9 hm9 hall
  have f10 : Is (.slice (some ⟨gm, 2 + 256 * (c / 32), none⟩) 256 256) (a9.eval (.tmp 10)) V9 := hall 7 _ _ rfl rfl
  have hfr := hm9.frame
  simp only [List.take_succ_cons, List.take_zero, List.filterMap_cons, List.filterMap_nil, List.foldl_cons, List.foldl_nil] at hfr
  have hgV9 := GrownX.none2 hm9.grow
  have f10 : a9.eval (.tmp 10) = _ := f10
  rw [f10] at hfr
  generalize a9.eval (.tmp 3) = e3 at hfr
  generalize a9.eval (.tmp 4) = e4 at hfr
  generalize a9.eval (.tmp 5) = e5 at hfr
  generalize a9.eval (.tmp 6) = e6 at hfr
  generalize a9.eval (.tmp 7) = e7 at hfr
  generalize a9.eval (.tmp 8) = e8 at hfr
  generalize a9.eval (.tmp 9) = e9 at hfr
  clear hall hm9
  unfold wpList
  rw [hfr]
  clear hfr
  go_simp
  unfold wpList
  go_simp
  rename ∀ (a : Act) (w : World), Code.wp _ _ _ a w → _ => hK
  refine .inl (hK _ _ ?_)
  go_wp2
  go_ret
  exact ⟨rfl, hgV9⟩
end Go.Proofs.Ytibofgokdjbomaa
