/-
  EntryOne's walk (P13.3), out of what Decode and awake answer.
-/
import Derived.Test.YtiakkfcjdmecdaaDoorEnHas
namespace Go.Proofs.YtiakkfcjdmecdaaDoor
set_option maxRecDepth 1000000
open Go.RowKit

set_option maxHeartbeats 8000000 in
theorem entryOne_walk (haw : HasAwake) (hdec : HasDecode 3000) (A : Option Addr) (n c : Nat) (b : List UInt8) (w : World) (hv : Rd w (.slice A n c) (bytesV b)) :
    Calls Tryd.prog 6 #[.slice A n c] w (Val (.bool true) w) := by
  have hln := hv.len.1
  rw [bytesV_len] at hln
  subst hln
  have HB := Lib.hid hv
  have HAW := Lib.hid haw
  have HDEC := Lib.hid hdec
  clear hv haw hdec
  by_cases hlen : 3000 < b.length
  · have d0 : decide ((3000 : Int) < (b.length : Int)) = true := decide_eq_true (by omega)
    go_enter Tryd.func6, Tryd.ntmps6
    go_wp2_with fail
    refine (HAW.out _).mono ?_
    rintro e1 w1 ⟨rfl, hg1⟩
    go_wp2
    go_ret
    exact ⟨rfl, hg1⟩
  · have d0 : decide ((3000 : Int) < (b.length : Int)) = false := decide_eq_false (by omega)
    have HD := Lib.hid (HDEC.out _ b w HB.out (by omega))
    go_enter Tryd.func6, Tryd.ntmps6
    go_wp2_with fail
    refine HD.out.mono ?_
    rintro e1 w1 ⟨u, z, rfl, hg1, ⟨hz, l, hl, hr⟩ | ⟨hz, hno, hr⟩⟩
    · subst hz
      have HG1 := Lib.hid hg1
      have HR2 := Lib.hid hr
      have HB1 := Lib.hid (HB.out.grown0 hg1)
      obtain ⟨hfi, hbe⟩ := dec_back hl
      have HBE := Lib.hid hbe
      have hlm : Lens l 3000 := fun e he => by have := lens_enc l e he; rw [hbe] at this; omega
      have HLN := Lib.hid (show l.length ≤ 100000 by have := (fine_wide hfi).1; omega)
      have HF := Lib.hid (fun (v : Value) (w' : World) (h : IsE l v w') => hfi ▸ fine_made v 3000 l w' h hlm (by omega) (by have := HLN.out; omega))
      have HEN := Lib.hid (fun (v : Value) (w' : World) (h : IsE l v w') => encode_made v 3000 l w' h hlm (by omega) HLN.out)
      obtain ⟨A1, c1, rfl⟩ := hr.form
      clear hg1 hr hl hfi hbe hlm hlen
      go_wp2
      refine wp_region_walk3 16 [] dis_nil (by kernel_rfl) (by kernel_rfl) (by kernel_rfl) ?_
      simp only [List.take_succ_cons, List.take_zero, List.drop_succ_cons, List.drop_zero]
      refine Walk.val (G := Is (.slice A1 l.length c1)) (stays_is _ _) rfl rfl (fun a w hm hd => ⟨wanted_plain rfl, st_move rfl (by rw [hm.outer 3 (by kernel_rfl)]; rfl)⟩) ?_
      refine Walk.call (G := IsE l) (stays_E _ _) rfl 19 rfl (fun a w hm ha hd => ⟨wanted_plain rfl, _, ex_call1 Tryd.func19 (by kernel_rfl) (by kernel_rfl) rfl, given_made l _ w (show RdE w _ l by rw [show a.eval _ = _ from (hd.at_ 0 rfl rfl rfl rfl)]; exact HR2.out.grown0 (GrownX.none2 hm.grow)) HLN.out⟩) ?_
      refine Walk.call (G := Is (.bool true)) (stays_is _ _) rfl 24 rfl (fun a w hm ha hd => ⟨wanted_plain rfl, _, ex_call1 Tryd.func24 (by kernel_rfl) (by kernel_rfl) rfl, HF.out _ w (hd.at_ 1 rfl rfl rfl rfl)⟩) ?_
      refine Walk.val (G := Is (.bool true)) (stays_is _ _) rfl rfl (fun a w hm hd => ⟨wanted_plain rfl, st_move rfl (hd.at_ 2 rfl rfl rfl rfl)⟩) ?_
      refine Walk.val (G := Is (.slice A1 l.length c1)) (stays_is _ _) rfl rfl (fun a w hm hd => ⟨wanted_at rfl rfl (hd.at_ 3 rfl rfl rfl rfl), st_move rfl (by rw [hm.outer 3 (by kernel_rfl)]; rfl)⟩) ?_
      refine Walk.call (G := IsE l) (stays_E _ _) rfl 19 rfl (fun a w hm ha hd => ⟨wanted_at rfl rfl (hd.at_ 3 rfl rfl rfl rfl), _, ex_call1 Tryd.func19 (by kernel_rfl) (by kernel_rfl) rfl, given_made l _ w (show RdE w _ l by rw [show a.eval _ = _ from (hd.at_ 4 rfl rfl rfl rfl)]; exact HR2.out.grown0 (GrownX.none2 hm.grow)) HLN.out⟩) ?_
      refine Walk.call (G := IsB (encE l)) (stays_B13 _ _) rfl 29 rfl (fun a w hm ha hd => ⟨wanted_at rfl rfl (hd.at_ 3 rfl rfl rfl rfl), _, ex_call1 Tryd.func29 (by kernel_rfl) (by kernel_rfl) rfl, HEN.out _ w (hd.at_ 5 rfl rfl rfl rfl)⟩) ?_
      refine Walk.val (G := Is (.string ⟨(encE l).toArray⟩)) (stays_is _ _) rfl rfl (fun a w hm hd => ⟨wanted_at rfl rfl (hd.at_ 3 rfl rfl rfl rfl), st_str rfl (hd.at_ 6 rfl rfl rfl rfl)⟩) ?_
      refine Walk.val (G := IsB b) (stays_B13 _ _) rfl rfl (fun a w hm hd => ⟨wanted_at rfl rfl (hd.at_ 3 rfl rfl rfl rfl), st_move (G := IsB b) rfl (show Rd w (a.eval (.tmp 0)) (bytesV b) by rw [hm.outer 0 (by kernel_rfl)]; exact HB1.out.grown0 (GrownX.none2 hm.grow))⟩) ?_
      refine Walk.val (G := Is (.string ⟨b.toArray⟩)) (stays_is _ _) rfl rfl (fun a w hm hd => ⟨wanted_at rfl rfl (hd.at_ 3 rfl rfl rfl rfl), st_str rfl (hd.at_ 8 rfl rfl rfl rfl)⟩) ?_
      refine Walk.val (G := Is (.bool true)) (stays_is _ _) rfl rfl (fun a w hm hd => ⟨wanted_at rfl rfl (hd.at_ 3 rfl rfl rfl rfl), st_eqs rfl (hd.at_ 7 rfl rfl rfl rfl) (hd.at_ 9 rfl rfl rfl rfl) HBE.out⟩) ?_
      refine Walk.val (G := Is (.bool true)) (stays_is _ _) rfl rfl (fun a w hm hd => ⟨wanted_plain rfl, st_pick rfl (hd.at_ 3 rfl rfl rfl rfl) (hd.at_ 10 rfl rfl rfl rfl)⟩) ?_
      refine Walk.val (G := Is (.bool true)) (stays_is _ _) rfl rfl (fun a w hm hd => ⟨wanted_plain rfl, st_move rfl (hd.at_ 11 rfl rfl rfl rfl)⟩) ?_
      refine Walk.call (G := Is (.bool true)) (stays_is _ _) rfl 12 rfl (fun a w hm ha hd => ⟨wanted_at rfl rfl (hd.at_ 12 rfl rfl rfl rfl), _, ex_call0 Tryd.func12 (by kernel_rfl) (by kernel_rfl) rfl, Val.made7 (HAW.out w)⟩) ?_
      refine Walk.val (G := Is (.bool true)) (stays_is _ _) rfl rfl (fun a w hm hd => ⟨wanted_plain rfl, st_pick rfl (hd.at_ 12 rfl rfl rfl rfl) (hd.at_ 13 rfl rfl rfl rfl)⟩) ?_
      refine Walk.val (G := Is (.bool true)) (stays_is _ _) rfl rfl (fun a w hm hd => ⟨wanted_plain rfl, st_assign rfl (hd.at_ 14 rfl rfl rfl rfl)⟩) ?_
      intro a9 V9 hm9 hall
      have f2 : Is (.bool true) (a9.eval (.tmp 2)) V9 := hall 15 _ _ rfl rfl
      have hfr := hm9.frame
      simp only [List.take_succ_cons, List.take_zero, List.filterMap_cons, List.filterMap_nil, List.foldl_cons, List.foldl_nil] at hfr
      have hgV9 := GrownX.none2 hm9.grow
      have f2 : a9.eval (.tmp 2) = _ := f2
      rw [f2] at hfr
      generalize a9.eval (.tmp 22) = e22 at hfr
      generalize a9.eval (.tmp 23) = e23 at hfr
      generalize a9.eval (.tmp 24) = e24 at hfr
      generalize a9.eval (.tmp 25) = e25 at hfr
      generalize a9.eval (.tmp 26) = e26 at hfr
      generalize a9.eval (.tmp 27) = e27 at hfr
      generalize a9.eval (.tmp 28) = e28 at hfr
      generalize a9.eval (.tmp 29) = e29 at hfr
      generalize a9.eval (.tmp 30) = e30 at hfr
      generalize a9.eval (.tmp 31) = e31 at hfr
      generalize a9.eval (.tmp 32) = e32 at hfr
      generalize a9.eval (.tmp 33) = e33 at hfr
      generalize a9.eval (.tmp 34) = e34 at hfr
      generalize a9.eval (.tmp 35) = e35 at hfr
      generalize a9.eval (.tmp 36) = e36 at hfr
      clear hall hm9
      unfold wpList
      rw [hfr]
      clear hfr
      go_simp
      go_wp2
      go_ret
      exact ⟨rfl, World.grownBy.trans HG1.out hgV9⟩
    · obtain ⟨A1, c1, rfl⟩ := hr.form
      have e1 : (z == 0) = false := beq_eq_false_iff_ne.2 hz
      have e2 : (z != 0) = true := by rw [bne, e1]; rfl
      have HG1 := Lib.hid hg1
      clear hz hno hr hg1
      go_wp2_with fail
      refine (HAW.out _).mono ?_
      rintro e3 w3 ⟨rfl, hg3⟩
      go_wp2
      go_ret
      exact ⟨rfl, World.grownBy.trans HG1.out hg3⟩
end Go.Proofs.YtiakkfcjdmecdaaDoor
