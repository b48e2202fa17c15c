/-
  The law StreamXors, walked.
-/
import Derived.Test.YtmhpnddelebjdaaStrOps
namespace Go.Proofs.Ytmhpnddelebjdaa
open Go.RowKit

set_option maxHeartbeats 8000000 in
theorem streamXors_walk (key : List UInt8) (hk : key.length = 32) (n : W32) (nonce : List UInt8) (hn : nonce.length = 12) (A : Option Addr) (m c : Nat) (b : List UInt8) (w : World) (hr : Rd w (.slice A m c) (bytesV b)) :
    Calls Try.prog 5 #[.agg (bytesV key).toArray, .int .u32 (n.toNat : Int), .agg (bytesV nonce).toArray, .slice A m c] w (Awake w) := by
  have hbl : b.length = m := by have := hr.len.1; rwa [bytesV_len] at this
  have HBL := Lib.hid hbl
  have HK := Lib.hid hk
  have HN := Lib.hid hn
  have HKL := Lib.hid (show (bytesV key).length = 32 by rw [bytesV_len, hk])
  have HNL := Lib.hid (show (bytesV nonce).length = 12 by rw [bytesV_len, hn])
  generalize hG : w.heap.size = G
  have HG := Lib.hid hG
  obtain ⟨W0, hW0⟩ : ∃ W, (w.alloc (.cells (bytesV key).toArray 29)).alloc (.cells (bytesV nonce).toArray 30) = W := ⟨_, rfl⟩
  have R0 := Lib.hid (show Row W0 G 29 (bytesV key) by rw [← hW0]; exact (Row.newAt w _ (bytesV key) hG).alloc _)
  have R1 := Lib.hid (show Row W0 (G + 1) 30 (bytesV nonce) by rw [← hW0]; exact Row.newAt _ _ (bytesV nonce) (by simp [hG]))
  have HGR := Lib.hid (show w.grownBy W0 none by rw [← hW0]; exact grown_alloc (grown_alloc (grown_refl _ _) _) _)
  clear hk hn
  have HRD := Lib.hid (hr.grown0 HGR.out)
  have hcm := hr.len.2.2
  unfold maxLen at hcm
  have hmc := hr.len.2.1
  clear hr hbl
  by_cases hm : 500 < m
  · have hdec : decide (500 < (m : Int)) = true := by simp; omega
    clear hm
    go_enter Try.func5, Try.ntmps5
    go_wp2_with (go_at_call 12; refine (awake_any _).mono ?_; rintro e w5 ⟨rfl, hg5⟩)
    go_ret
    exact ⟨rfl, HGR.out.trans hg5⟩
  · have hdec : decide (500 < (m : Int)) = false := by simp; omega
    have hm5 : m ≤ 500 := by omega
    clear hm
    obtain ⟨X, hX⟩ : ∃ X, xs key n nonce b = X := ⟨_, rfl⟩
    have HXX := Lib.hid (show xs key n nonce X = b by rw [← hX]; exact xs_xs key n nonce b)
    have HXL := Lib.hid (show X.length = m by rw [← hX, xs_len, HBL.out])
    have HX := Lib.hid hX
    clear hX
    go_enter Try.func5, Try.ntmps5
    go_wp2_with (at_builtin; refine wpList_append_bytes _ rfl _ _ rfl W0.heap.size _ 0 [] rfl (own_empty W0 _ (Nat.le_refl _)) _ b rfl (HRD.out.grown0 (grown_alloc (grown_refl _ none) _)) ?_ ?_ ?_)
    · rw [HBL.out]; omega
    · simp
    intro v1 w1 ho1 hg1 _
    have hgw : W0.grownBy w1 none := grown_new (grown_alloc (grown_refl W0 none) _) hg1 (fun x e => by cases e; exact Nat.le_refl _)
    have HV1 := Lib.hid (show Rd w1 v1 (bytesV b) from Rd.of_own ho1)
    have R0a := Lib.hid (R0.out.grown0 hgw)
    have R1a := Lib.hid (R1.out.grown0 hgw)
    have HBa := Lib.hid (HRD.out.grown0 hgw)
    have HGa := Lib.hid (HGR.out.trans hgw)
    clear ho1 hg1 hgw R0 R1 HRD HGR hG hW0
    go_wp2_with (first
      | refine wpList_load_row _ rfl _ 29 rfl G 29 (bytesV key) _ rfl R0a.out Try.underlying29 rfl (by rw [HKL.out]; kernel_rfl) ?_
      | refine wpList_load_row _ rfl _ 30 rfl (G + 1) 30 (bytesV nonce) _ rfl R1a.out Try.underlying30 rfl (by rw [HNL.out]; kernel_rfl) ?_)
    refine (xor_at key HK.out n nonce HN.out v1 b w1 HV1.out (by rw [HBL.out]; omega)).mono ?_
    rintro e w2 ⟨v2, rfl, hg2, hx2⟩
    rw [HX.out] at hx2
    have R0 := Lib.hid (R0a.out.grown0 hg2)
    have R1 := Lib.hid (R1a.out.grown0 hg2)
    have HB := Lib.hid (HBa.out.grown0 hg2)
    have HV := Lib.hid (HV1.out.grown0 hg2)
    have HX2 := Lib.hid hx2
    have HG2 := Lib.hid (HGa.out.trans hg2)
    clear hx2 hg2 R0a R1a HBa HV1 HGa
    go_wp2
    refine wp_region_steps none (by kernel_rfl) (by kernel_rfl) (by kernel_rfl) ?_
    refine Steps.val (G := IsX X) (lasts_x _) rfl (fun a w hm hd => ⟨wanted_plain rfl, _, ex_move rfl, (by rw [hm.outer 10 (by kernel_rfl)]; exact (lasts_x _ _ _ _ HX2.out hm.grow))⟩) ?_
    refine Steps.val (G := Is (.string ⟨X.toArray⟩)) (lasts_is _) rfl (fun a w hm hd => ⟨wanted_plain rfl, _, ex_str rfl (IsX.rd (l := X) (hd.at_ 0 rfl rfl rfl) (by rw [HXL.out]; omega)), rfl⟩) ?_
    refine Steps.val (G := IsB key) (lasts_bytes _) rfl (fun a w hm hd => ⟨wanted_plain rfl, _, ex_all32 rfl (by rw [hm.outer 4 (by kernel_rfl)]; rfl), (R0.out.grown0 hm.grow).rds 32 32 HKL.out (by decide) (by decide)⟩) ?_
    refine Steps.val (G := Is (.int .u32 (n.toNat : Int))) (lasts_is _) rfl (fun a w hm hd => ⟨wanted_plain rfl, _, ex_move rfl, (by rw [hm.outer 1 (by kernel_rfl)]; rfl)⟩) ?_
    refine Steps.val (G := Is (.int .i64 (n.toNat : Int))) (lasts_is _) rfl (fun a w hm hd => ⟨wanted_plain rfl, _, ex_conv32 rfl (hd.at_ 3 rfl rfl rfl), rfl⟩) ?_
    refine Steps.val (G := IsB nonce) (lasts_bytes _) rfl (fun a w hm hd => ⟨wanted_plain rfl, _, ex_all12 rfl (by rw [hm.outer 6 (by kernel_rfl)]; rfl), (R1.out.grown0 hm.grow).rds 12 12 HNL.out (by decide) (by decide)⟩) ?_
    refine Steps.val (G := IsB b) (lasts_bytes _) rfl (fun a w hm hd => ⟨wanted_plain rfl, _, ex_move rfl, (by rw [hm.outer 3 (by kernel_rfl)]; exact HB.out.grown0 hm.grow)⟩) ?_
    refine Steps.call (G := IsB X) (lasts_bytes _) rfl 17 (fun a w hm hd => ⟨wanted_plain rfl, _, ex_call4 Try.func17 (by kernel_rfl) (by kernel_rfl) rfl, by
      rw [show a.eval (.tmp 27) = _ from hd.at_ 4 rfl rfl rfl]
      have h0 : IsB key (a.eval (.tmp 25)) w := hd.at_ 2 rfl rfl rfl
      have h2 : IsB nonce (a.eval (.tmp 28)) w := hd.at_ 5 rfl rfl rfl
      have h3 : IsB b (a.eval (.tmp 29)) w := hd.at_ 6 rfl rfl rfl
      refine (rxorAll_any _ _ _ key HK.out n nonce HN.out b (by rw [HBL.out]; omega) w h0 h2 h3).mono ?_
      rintro e w' ⟨u, rfl, hru, hgu, _⟩
      rw [HX.out] at hru
      exact ⟨u, rfl, hgu, hru⟩⟩) ?_
    refine Steps.val (G := Is (.string ⟨X.toArray⟩)) (lasts_is _) rfl (fun a w hm hd => ⟨wanted_plain rfl, _, ex_str rfl (hd.at_ 7 rfl rfl rfl), rfl⟩) ?_
    refine Steps.val (G := Is (.bool true)) (lasts_is _) rfl (fun a w hm hd => ⟨wanted_plain rfl, _, ex_eqs rfl (hd.at_ 1 rfl rfl rfl) (hd.at_ 8 rfl rfl rfl), rfl⟩) ?_
    refine Steps.val (G := Is (.bool true)) (lasts_is _) rfl (fun a w hm hd => ⟨wanted_plain rfl, _, ex_move rfl, hd.at_ 9 rfl rfl rfl⟩) ?_
    refine Steps.val (G := Is (.agg (bytesV key).toArray)) (lasts_is _) rfl (fun a w hm hd => ⟨wanted_at rfl rfl (hd.at_ 10 rfl rfl rfl), _, ex_load_row rfl G 29 _ _ (by rw [hm.outer 4 (by kernel_rfl)]; rfl) (R0.out.grown0 hm.grow) Try.underlying29 rfl (by rw [HKL.out]; kernel_rfl), rfl⟩) ?_
    refine Steps.val (G := Is (.int .u32 (n.toNat : Int))) (lasts_is _) rfl (fun a w hm hd => ⟨wanted_at rfl rfl (hd.at_ 10 rfl rfl rfl), _, ex_move rfl, (by rw [hm.outer 1 (by kernel_rfl)]; rfl)⟩) ?_
    refine Steps.val (G := Is (.agg (bytesV nonce).toArray)) (lasts_is _) rfl (fun a w hm hd => ⟨wanted_at rfl rfl (hd.at_ 10 rfl rfl rfl), _, ex_load_row rfl (G + 1) 30 _ _ (by rw [hm.outer 6 (by kernel_rfl)]; rfl) (R1.out.grown0 hm.grow) Try.underlying30 rfl (by rw [HNL.out]; kernel_rfl), rfl⟩) ?_
    refine Steps.val (G := IsX X) (lasts_x _) rfl (fun a w hm hd => ⟨wanted_at rfl rfl (hd.at_ 10 rfl rfl rfl), _, ex_move rfl, (by rw [hm.outer 10 (by kernel_rfl)]; exact (lasts_x _ _ _ _ HX2.out hm.grow))⟩) ?_
    refine Steps.call (G := IsX b) (lasts_x _) rfl 16 (fun a w hm hd => ⟨wanted_at rfl rfl (hd.at_ 10 rfl rfl rfl), _, ex_call4 Try.func16 (by kernel_rfl) (by kernel_rfl) rfl, by
      rw [show a.eval (.tmp 34) = _ from hd.at_ 11 rfl rfl rfl, show a.eval (.tmp 35) = _ from hd.at_ 12 rfl rfl rfl, show a.eval (.tmp 36) = _ from hd.at_ 13 rfl rfl rfl]
      have hx : IsX X (a.eval (.tmp 37)) w := hd.at_ 14 rfl rfl rfl
      have hl : X.length ≤ 100000000000 := by rw [HXL.out]; omega
      have := xor_at key HK.out n nonce HN.out _ X w (hx.rd hl) hl
      rw [HXX.out] at this
      exact this⟩) ?_
    refine Steps.val (G := Is (.string ⟨b.toArray⟩)) (lasts_is _) rfl (fun a w hm hd => ⟨wanted_at rfl rfl (hd.at_ 10 rfl rfl rfl), _, ex_str rfl (IsX.rd (l := b) (hd.at_ 15 rfl rfl rfl) (by rw [HBL.out]; omega)), rfl⟩) ?_
    refine Steps.val (G := IsB b) (lasts_bytes _) rfl (fun a w hm hd => ⟨wanted_at rfl rfl (hd.at_ 10 rfl rfl rfl), _, ex_move rfl, (by rw [hm.outer 3 (by kernel_rfl)]; exact HB.out.grown0 hm.grow)⟩) ?_
    refine Steps.val (G := Is (.string ⟨b.toArray⟩)) (lasts_is _) rfl (fun a w hm hd => ⟨wanted_at rfl rfl (hd.at_ 10 rfl rfl rfl), _, ex_str rfl (hd.at_ 17 rfl rfl rfl), rfl⟩) ?_
    refine Steps.val (G := Is (.bool true)) (lasts_is _) rfl (fun a w hm hd => ⟨wanted_at rfl rfl (hd.at_ 10 rfl rfl rfl), _, ex_eqs rfl (hd.at_ 16 rfl rfl rfl) (hd.at_ 18 rfl rfl rfl), rfl⟩) ?_
    refine Steps.val (G := Is (.bool true)) (lasts_is _) rfl (fun a w hm hd => ⟨wanted_plain rfl, _, ex_pick rfl (hd.at_ 10 rfl rfl rfl) (hd.at_ 19 rfl rfl rfl), rfl⟩) ?_
    refine Steps.val (G := Is (.bool true)) (lasts_is _) rfl (fun a w hm hd => ⟨wanted_plain rfl, _, ex_move rfl, hd.at_ 20 rfl rfl rfl⟩) ?_
    refine Steps.val (G := IsB b) (lasts_bytes _) rfl (fun a w hm hd => ⟨wanted_at rfl rfl (hd.at_ 21 rfl rfl rfl), _, ex_move rfl, (by rw [hm.outer 9 (by kernel_rfl)]; exact HV.out.grown0 hm.grow)⟩) ?_
    refine Steps.val (G := Is (.string ⟨b.toArray⟩)) (lasts_is _) rfl (fun a w hm hd => ⟨wanted_at rfl rfl (hd.at_ 21 rfl rfl rfl), _, ex_str rfl (hd.at_ 22 rfl rfl rfl), rfl⟩) ?_
    refine Steps.val (G := IsB b) (lasts_bytes _) rfl (fun a w hm hd => ⟨wanted_at rfl rfl (hd.at_ 21 rfl rfl rfl), _, ex_move rfl, (by rw [hm.outer 3 (by kernel_rfl)]; exact HB.out.grown0 hm.grow)⟩) ?_
    refine Steps.val (G := Is (.string ⟨b.toArray⟩)) (lasts_is _) rfl (fun a w hm hd => ⟨wanted_at rfl rfl (hd.at_ 21 rfl rfl rfl), _, ex_str rfl (hd.at_ 24 rfl rfl rfl), rfl⟩) ?_
    refine Steps.val (G := Is (.bool true)) (lasts_is _) rfl (fun a w hm hd => ⟨wanted_at rfl rfl (hd.at_ 21 rfl rfl rfl), _, ex_eqs rfl (hd.at_ 23 rfl rfl rfl) (hd.at_ 25 rfl rfl rfl), rfl⟩) ?_
    refine Steps.val (G := Is (.bool true)) (lasts_is _) rfl (fun a w hm hd => ⟨wanted_plain rfl, _, ex_pick rfl (hd.at_ 21 rfl rfl rfl) (hd.at_ 26 rfl rfl rfl), rfl⟩) ?_
    refine Steps.val (G := Is (.bool true)) (lasts_is _) rfl (fun a w hm hd => ⟨wanted_plain rfl, _, ex_move rfl, hd.at_ 27 rfl rfl rfl⟩) ?_
    refine Steps.call (G := Is (.bool true)) (lasts_is _) rfl 12 (fun a w hm hd => ⟨wanted_at rfl rfl (hd.at_ 28 rfl rfl rfl), _, ex_call0 Try.func12 (by kernel_rfl) (by kernel_rfl) rfl, by
      refine (awake_any w).mono ?_
      rintro e w' ⟨rfl, hg⟩
      exact ⟨_, rfl, hg, rfl⟩⟩) ?_
    refine Steps.val (G := Is (.bool true)) (lasts_is _) rfl (fun a w hm hd => ⟨wanted_plain rfl, _, ex_pick rfl (hd.at_ 28 rfl rfl rfl) (hd.at_ 29 rfl rfl rfl), rfl⟩) ?_
    refine Steps.val (G := Is (.bool true)) (lasts_is _) rfl (fun a w hm hd => ⟨wanted_plain rfl, _, ex_assign rfl, hd.at_ 30 rfl rfl rfl⟩) ?_
    intro a V hmid hall
    have h2 : a.eval (.tmp 8) = .bool true := hall 31 _ 8 rfl rfl
    have hdf : a.defers = [] := hmid.defers
    have hgr := hmid.grow
    clear hall hmid
    obtain ⟨tm, df⟩ := a
    simp only at hdf
    subst hdf
    go_wp2
    go_ret
    exact ⟨congrArg Ending.returned h2, HG2.out.trans hgr⟩
end Go.Proofs.Ytmhpnddelebjdaa
