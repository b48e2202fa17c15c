/-
  EntryEncodes' walk (P13.2, P13.3), out of what Encode, Decode and awake answer.
-/
import Derived.Test.YtiakkfcjdmecdaaDoorEnHas
namespace Go.Proofs.YtiakkfcjdmecdaaDoor
set_option maxRecDepth 1000000
open Go.RowKit

section
variable {o : Oper} {a : Act} {w : World}
theorem st_eqZ {x : Operand} {z : Int} (h : o.op = .binOp .eql 26 x (.const (.int .i64 0)) 26) (hx : Is (.int .i64 z) (a.eval x) w) (e : z = 0) : Runs (Is (.bool true)) o a w := by
  have hx' : a.eval x = .int .i64 z := hx
  have hc : a.eval (.const (.int .i64 0)) = .int .i64 0 := rfl
  subst e
  refine ⟨_, ?_, rfl⟩
  simp only [execOp, h, hx', hc]
  simp [go_sem]
end
theorem same_made (l : List En) (v u : Value) (w : World) (hv : RdE w v l) (hu : RdE w u l) (hl : l.length ≤ 100000) :
    Calls Tryd.prog 17 #[v, u] w (fun e w' => ∃ x, e = .returned x ∧ w.grownBy w' none ∧ Is (.bool true) x w') := by
  obtain ⟨A, c, rfl⟩ := hv.form
  obtain ⟨B, d, rfl⟩ := hu.form
  exact (same_any A l.length c l B l.length d l w hv hu hl).mono fun _ _ ⟨b, he, hb, hg⟩ => ⟨_, he, hg, by rw [hb.2 rfl]; rfl⟩
theorem encE_small {l : List En} (h : l.length ≤ 20) (hm : Lens l 300) : (encE l).length ≤ 20000 := by
  have h1 := entsB_len 300 (by omega) l hm
  have h2 := numB_len (l.length : Int)
  simp only [encE, List.length_append]
  omega

set_option maxHeartbeats 8000000 in
theorem entryEncodes_walk (haw : HasAwake) (henc : HasEncode) (hdec : HasDecode 20000) (A : Option Addr) (n c : Nat) (l : List En) (w : World) (hv : RdE w (.slice A n c) l) :
    Calls Tryd.prog 5 #[.slice A n c] w (Val (.bool true) w) := by
  have HSH := Lib.hid (short_any A n c l w hv)
  have hln := hv.len.1
  subst hln
  have HV := Lib.hid hv
  have HAW := Lib.hid haw
  clear hv haw
  cases hs : shortB l
  · rw [hs] at HSH
    go_enter Tryd.func5, Tryd.ntmps5
    go_wp2_with fail
    refine HSH.out.mono ?_
    rintro e0 w0 ⟨rfl, hg0⟩
    go_wp2_with fail
    refine (HAW.out _).mono ?_
    rintro e1 w1 ⟨rfl, hg1⟩
    go_wp2
    go_ret
    exact ⟨rfl, hg0.trans hg1⟩
  · rw [hs] at HSH
    obtain ⟨h20, hm, hsz⟩ := short_is hs
    have HLN := Lib.hid (show l.length ≤ 100000 by omega)
    have HSM := Lib.hid (encE_small h20 hm)
    have HE := Lib.hid (fun w' (h : RdE w' (.slice A l.length c) l) => henc _ l w' h hm hsz h20)
    have HD := Lib.hid (fun u w' (h : Rd w' u (bytesV (encE l))) => hdec u (encE l) w' h HSM.out)
    have HF := Lib.hid (fun (v : Value) (w' : World) (h : RdE w' v l) => fine_made v 300 l w' h hm (by omega) (by omega))
    have HEN := Lib.hid (fun (v : Value) (w' : World) (h : IsE l v w') => encode_made v 300 l w' h hm (by omega) HLN.out)
    clear henc hdec hm hsz h20
    go_enter Tryd.func5, Tryd.ntmps5
    go_wp2_with fail
    refine HSH.out.mono ?_
    rintro e0 w0 ⟨rfl, hg0⟩
    have G0 := Lib.hid hg0
    have HV0 := Lib.hid (HV.out.grown0 hg0)
    clear hg0
    go_wp2_with fail
    refine (HE.out _ HV0.out).mono ?_
    rintro e1 w1 ⟨u, z, rfl, hg1, hc⟩
    have G1 := Lib.hid (World.grownBy.trans G0.out hg1)
    have HV1 := Lib.hid (HV0.out.grown0 hg1)
    have HC := Lib.hid hc
    clear hg1 hc
    go_wp2_with fail
    refine (given_made l _ _ HV1.out HLN.out).mono ?_
    rintro e2 w2 ⟨v2, rfl, hg2, hr2⟩
    have G2 := Lib.hid (World.grownBy.trans G1.out hg2)
    have G12 := Lib.hid hg2
    clear hg2
    go_wp2_with fail
    refine (HF.out _ _ hr2).mono ?_
    rintro e3 w3 ⟨v3, rfl, hg3, hv3⟩
    obtain rfl : v3 = .bool (fineE l) := hv3
    have G3 := Lib.hid (World.grownBy.trans G2.out hg3)
    have G13 := Lib.hid (World.grownBy.trans G12.out hg3)
    clear hg3 hr2
    rcases HC.out with ⟨hf, hz, hr⟩ | ⟨hf, hz, hr⟩
    · rw [hf]
      subst hz
      obtain ⟨AB, cB, rfl⟩ := hr.form
      rw [bytesV_len] at hr
      have HR := Lib.hid (hr.grown0 G13.out)
      have HX := Lib.hid (dec_enc hf)
      clear hr hf
      rw [bytesV_len]
      go_wp2_with fail
      refine (HD.out _ _ HR.out).mono ?_
      rintro e4 w4 ⟨u2, z2, rfl, hg4, ⟨hz2, l2, hl2, hr4⟩ | ⟨hz2, hno, hr4⟩⟩
      · rw [HX.out] at hl2
        injection hl2 with hl2
        subst hl2 hz2
        have HR2 := Lib.hid hr4
        have HBY := Lib.hid (HR.out.grown0 hg4)
        have G4 := Lib.hid (World.grownBy.trans G3.out hg4)
        have HRL := Lib.hid (HV.out.grown0 (World.grownBy.trans G3.out hg4))
        obtain ⟨A2, c2, rfl⟩ := hr4.form
        clear hr4 hg4
        go_wp2
        refine wp_region_walk3 25 [] dis_nil (by kernel_rfl) (by kernel_rfl) (by kernel_rfl) ?_
        simp only [List.take_succ_cons, List.take_zero, List.drop_succ_cons, List.drop_zero]
        refine Walk.val (G := IsB (encE l)) (stays_B13 _ _) rfl rfl (fun a w hm hd => ⟨wanted_plain rfl, st_move (G := IsB (encE l)) rfl (show Rd w (a.eval (.tmp 3)) (bytesV (encE l)) by rw [hm.outer 3 (by kernel_rfl)]; exact HBY.out.grown0 (GrownX.none2 hm.grow))⟩) ?_
        refine Walk.val (G := Is (.string ⟨(encE l).toArray⟩)) (stays_is _ _) rfl rfl (fun a w hm hd => ⟨wanted_plain rfl, st_str rfl (hd.at_ 0 rfl rfl rfl rfl)⟩) ?_
        refine Walk.val (G := Is (.slice A l.length c)) (stays_is _ _) rfl rfl (fun a w hm hd => ⟨wanted_plain rfl, st_move rfl (by rw [hm.outer 0 (by kernel_rfl)]; rfl)⟩) ?_
        refine Walk.call (G := IsE l) (stays_E _ _) rfl 19 rfl (fun a w hm ha hd => ⟨wanted_plain rfl, _, ex_call1 Tryd.func19 (by kernel_rfl) (by kernel_rfl) rfl, given_made l _ w (show RdE w _ l by rw [show a.eval _ = _ from (hd.at_ 2 rfl rfl rfl rfl)]; exact HRL.out.grown0 (GrownX.none2 hm.grow)) HLN.out⟩) ?_
        refine Walk.call (G := IsB (encE l)) (stays_B13 _ _) rfl 29 rfl (fun a w hm ha hd => ⟨wanted_plain rfl, _, ex_call1 Tryd.func29 (by kernel_rfl) (by kernel_rfl) rfl, HEN.out _ w (hd.at_ 3 rfl rfl rfl rfl)⟩) ?_
        refine Walk.val (G := Is (.string ⟨(encE l).toArray⟩)) (stays_is _ _) rfl rfl (fun a w hm hd => ⟨wanted_plain rfl, st_str rfl (hd.at_ 4 rfl rfl rfl rfl)⟩) ?_
        refine Walk.val (G := Is (.bool true)) (stays_is _ _) rfl rfl (fun a w hm hd => ⟨wanted_plain rfl, st_eqs rfl (hd.at_ 1 rfl rfl rfl rfl) (hd.at_ 5 rfl rfl rfl rfl) rfl⟩) ?_
        refine Walk.val (G := Is (.bool true)) (stays_is _ _) rfl rfl (fun a w hm hd => ⟨wanted_plain rfl, st_move rfl (hd.at_ 6 rfl rfl rfl rfl)⟩) ?_
        refine Walk.val (G := Is (.int .i64 0)) (stays_is _ _) rfl rfl (fun a w hm hd => ⟨wanted_at rfl rfl (hd.at_ 7 rfl rfl rfl rfl), st_move rfl (by rw [hm.outer 4 (by kernel_rfl)]; rfl)⟩) ?_
        refine Walk.val (G := Is (.bool true)) (stays_is _ _) rfl rfl (fun a w hm hd => ⟨wanted_at rfl rfl (hd.at_ 7 rfl rfl rfl rfl), st_eqZ rfl (hd.at_ 8 rfl rfl rfl rfl) rfl⟩) ?_
        refine Walk.val (G := Is (.bool true)) (stays_is _ _) rfl rfl (fun a w hm hd => ⟨wanted_plain rfl, st_pick rfl (hd.at_ 7 rfl rfl rfl rfl) (hd.at_ 9 rfl rfl rfl rfl)⟩) ?_
        refine Walk.val (G := Is (.bool true)) (stays_is _ _) rfl rfl (fun a w hm hd => ⟨wanted_plain rfl, st_move rfl (hd.at_ 10 rfl rfl rfl rfl)⟩) ?_
        refine Walk.val (G := Is (.int .i64 0)) (stays_is _ _) rfl rfl (fun a w hm hd => ⟨wanted_at rfl rfl (hd.at_ 11 rfl rfl rfl rfl), st_move rfl (by rw [hm.outer 6 (by kernel_rfl)]; rfl)⟩) ?_
        refine Walk.val (G := Is (.bool true)) (stays_is _ _) rfl rfl (fun a w hm hd => ⟨wanted_at rfl rfl (hd.at_ 11 rfl rfl rfl rfl), st_eqZ rfl (hd.at_ 12 rfl rfl rfl rfl) rfl⟩) ?_
        refine Walk.val (G := Is (.bool true)) (stays_is _ _) rfl rfl (fun a w hm hd => ⟨wanted_plain rfl, st_pick rfl (hd.at_ 11 rfl rfl rfl rfl) (hd.at_ 13 rfl rfl rfl rfl)⟩) ?_
        refine Walk.val (G := Is (.bool true)) (stays_is _ _) rfl rfl (fun a w hm hd => ⟨wanted_plain rfl, st_move rfl (hd.at_ 14 rfl rfl rfl rfl)⟩) ?_
        refine Walk.val (G := IsE l) (stays_E _ _) rfl rfl (fun a w hm hd => ⟨wanted_at rfl rfl (hd.at_ 15 rfl rfl rfl rfl), st_move (G := IsE l) rfl (show RdE w (a.eval (.tmp 5)) l by rw [hm.outer 5 (by kernel_rfl)]; exact HR2.out.grown0 (GrownX.none2 hm.grow))⟩) ?_
        refine Walk.val (G := Is (.slice A l.length c)) (stays_is _ _) rfl rfl (fun a w hm hd => ⟨wanted_at rfl rfl (hd.at_ 15 rfl rfl rfl rfl), st_move rfl (by rw [hm.outer 0 (by kernel_rfl)]; rfl)⟩) ?_
        refine Walk.call (G := IsE l) (stays_E _ _) rfl 19 rfl (fun a w hm ha hd => ⟨wanted_at rfl rfl (hd.at_ 15 rfl rfl rfl rfl), _, ex_call1 Tryd.func19 (by kernel_rfl) (by kernel_rfl) rfl, given_made l _ w (show RdE w _ l by rw [show a.eval _ = _ from (hd.at_ 17 rfl rfl rfl rfl)]; exact HRL.out.grown0 (GrownX.none2 hm.grow)) HLN.out⟩) ?_
        refine Walk.call (G := Is (.bool true)) (stays_is _ _) rfl 17 rfl (fun a w hm ha hd => ⟨wanted_at rfl rfl (hd.at_ 15 rfl rfl rfl rfl), _, ex_call2 Tryd.func17 (by kernel_rfl) (by kernel_rfl) rfl, same_made l _ _ w (hd.at_ 16 rfl rfl rfl rfl) (hd.at_ 18 rfl rfl rfl rfl) HLN.out⟩) ?_
        refine Walk.val (G := Is (.bool true)) (stays_is _ _) rfl rfl (fun a w hm hd => ⟨wanted_plain rfl, st_pick rfl (hd.at_ 15 rfl rfl rfl rfl) (hd.at_ 19 rfl rfl rfl rfl)⟩) ?_
        refine Walk.val (G := Is (.bool true)) (stays_is _ _) rfl rfl (fun a w hm hd => ⟨wanted_plain rfl, st_move rfl (hd.at_ 20 rfl rfl rfl rfl)⟩) ?_
        refine Walk.call (G := Is (.bool true)) (stays_is _ _) rfl 12 rfl (fun a w hm ha hd => ⟨wanted_at rfl rfl (hd.at_ 21 rfl rfl rfl rfl), _, ex_call0 Tryd.func12 (by kernel_rfl) (by kernel_rfl) rfl, Val.made7 (HAW.out w)⟩) ?_
        refine Walk.val (G := Is (.bool true)) (stays_is _ _) rfl rfl (fun a w hm hd => ⟨wanted_plain rfl, st_pick rfl (hd.at_ 21 rfl rfl rfl rfl) (hd.at_ 22 rfl rfl rfl rfl)⟩) ?_
        refine Walk.val (G := Is (.bool true)) (stays_is _ _) rfl rfl (fun a w hm hd => ⟨wanted_plain rfl, st_assign rfl (hd.at_ 23 rfl rfl rfl rfl)⟩) ?_
        intro a9 V9 hm9 hall
        have f2 : Is (.bool true) (a9.eval (.tmp 2)) V9 := hall 24 _ _ rfl rfl
        have hfr := hm9.frame
        simp only [List.take_succ_cons, List.take_zero, List.filterMap_cons, List.filterMap_nil, List.foldl_cons, List.foldl_nil] at hfr
        have hgV9 := GrownX.none2 hm9.grow
        have f2 : a9.eval (.tmp 2) = _ := f2
        rw [f2] at hfr
        generalize a9.eval (.tmp 35) = e35 at hfr
        generalize a9.eval (.tmp 36) = e36 at hfr
        generalize a9.eval (.tmp 37) = e37 at hfr
        generalize a9.eval (.tmp 38) = e38 at hfr
        generalize a9.eval (.tmp 39) = e39 at hfr
        generalize a9.eval (.tmp 40) = e40 at hfr
        generalize a9.eval (.tmp 41) = e41 at hfr
        generalize a9.eval (.tmp 42) = e42 at hfr
        generalize a9.eval (.tmp 43) = e43 at hfr
        generalize a9.eval (.tmp 44) = e44 at hfr
        generalize a9.eval (.tmp 45) = e45 at hfr
        generalize a9.eval (.tmp 46) = e46 at hfr
        generalize a9.eval (.tmp 47) = e47 at hfr
        generalize a9.eval (.tmp 48) = e48 at hfr
        generalize a9.eval (.tmp 49) = e49 at hfr
        generalize a9.eval (.tmp 50) = e50 at hfr
        generalize a9.eval (.tmp 51) = e51 at hfr
        generalize a9.eval (.tmp 52) = e52 at hfr
        generalize a9.eval (.tmp 53) = e53 at hfr
        generalize a9.eval (.tmp 54) = e54 at hfr
        generalize a9.eval (.tmp 55) = e55 at hfr
        generalize a9.eval (.tmp 56) = e56 at hfr
        generalize a9.eval (.tmp 57) = e57 at hfr
        generalize a9.eval (.tmp 58) = e58 at hfr
        clear hall hm9
        unfold wpList
        rw [hfr]
        clear hfr
        go_simp
        go_wp2
        go_ret
        exact ⟨rfl, World.grownBy.trans G4.out hgV9⟩
      · rw [HX.out] at hno; cases hno
    · rw [hf]
      subst hz
      obtain ⟨AB, cB, rfl⟩ := hr.form
      clear hr hf
      go_wp2_with fail
      refine (HAW.out _).mono ?_
      rintro e4 w4 ⟨rfl, hg4⟩
      go_wp2
      go_ret
      exact ⟨rfl, World.grownBy.trans G3.out hg4⟩
end Go.Proofs.YtiakkfcjdmecdaaDoor
