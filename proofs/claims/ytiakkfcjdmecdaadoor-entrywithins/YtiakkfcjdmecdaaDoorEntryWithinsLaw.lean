/-
  EntryWithins' walk (P13.1), out of what Within, Fine, Total and awake answer.
-/
import Derived.Test.YtiakkfcjdmecdaaDoorEnSlice
namespace Go.Proofs.YtiakkfcjdmecdaaDoor
set_option maxRecDepth 1000000
open Go.RowKit

section
variable {o : Oper} {a : Act} {w : World}
theorem st_geqN {x y : Operand} {p q : Int} {b : Bool} (h : o.op = .binOp .geq 3 x y 3) (hx : Is (.int .i64 p) (a.eval x) w) (hy : Is (.int .i64 q) (a.eval y) w) (e : decide (q ≤ p) = b) : Runs (Is (.bool b)) o a w := by
  have hx' : a.eval x = .int .i64 p := hx
  have hy' : a.eval y = .int .i64 q := hy
  subst e
  refine ⟨_, ?_, rfl⟩
  simp only [execOp, h, hx', hy']
  simp [go_sem]
end
theorem total_i64 (l : List En) (h : l.length ≤ 20) : I64 (totalE l) := by
  unfold I64 totalE
  split
  · rename_i hf
    have := sizes_bound l (fine_good hf).1.size l.length
    rw [List.take_length] at this
    omega
  · omega
set_option maxHeartbeats 8000000 in
theorem entryWithins_walk (haw : HasAwake) (hwi : HasWithin) (hfi : HasFine) (hto : HasTotal) (A : Option Addr) (n c : Nat) (l : List En) (q r : Int) (w : World) (hv : RdE w (.slice A n c) l) (hq : I64 q) (hr : I64 r) :
    Calls Tryd.prog 8 #[.slice A n c, .int .i64 q, .int .i64 r] w (Val (.bool true) w) := by
  have HSH := Lib.hid (short_any A n c l w hv)
  have hln := hv.len.1
  subst hln
  have HV := Lib.hid hv
  have HAW := Lib.hid haw
  clear hv haw
  by_cases hok : shortB l = true ∧ q ≤ r
  · obtain ⟨hs, hqr⟩ := hok
    rw [hs] at HSH
    obtain ⟨h20, hm, hsz⟩ := short_is hs
    have HWI := Lib.hid (fun (z : Int) w' (hz : I64 z) (h : RdE w' (.slice A l.length c) l) => hwi _ l z w' h hm hsz h20 hz)
    have HFI := Lib.hid (fun w' (h : RdE w' (.slice A l.length c) l) => hfi _ l w' h hm hsz h20)
    have HTO := Lib.hid (fun w' (h : RdE w' (.slice A l.length c) l) => hto _ l w' h hm hsz h20)
    have HQ := Lib.hid (And.intro hq hr)
    have HTI := Lib.hid (total_i64 l h20)
    have HLE := Lib.hid (And.intro (within_le l q) (And.intro (within_le l r) (within_mono l hqr)))
    have HWT := Lib.hid (within_total (l := l))
    have H20 := Lib.hid h20
    have d1 : decide (r < q) = false := decide_eq_false (by omega)
    clear hwi hfi hto hq hr hm hsz h20 hs hqr
    go_enter Tryd.func8, Tryd.ntmps8
    go_wp2_with fail
    refine HSH.out.mono ?_
    rintro e0 w0 ⟨rfl, hg0⟩
    have G0 := Lib.hid hg0
    have HV0 := Lib.hid (HV.out.grown0 hg0)
    clear hg0
    go_wp2_with fail
    refine (HWI.out _ _ HQ.out.1 HV0.out).mono ?_
    rintro e1 w1 ⟨u, rfl, hr1, hg1⟩
    have G1 := Lib.hid (World.grownBy.trans G0.out hg1)
    have HV1 := Lib.hid (HV0.out.grown0 hg1)
    have HR1 := Lib.hid hr1
    clear hg1 hr1
    go_wp2_with fail
    refine (HWI.out _ _ HQ.out.2 HV1.out).mono ?_
    rintro e2 w2 ⟨u2, rfl, hr2, hg2⟩
    have G2 := Lib.hid (World.grownBy.trans G1.out hg2)
    have HV2 := Lib.hid (HV1.out.grown0 hg2)
    have hr1 := HR1.out.grown0 hg2
    clear hg2 HR1
    have hl1 : (l.take (withinE l q)).length = withinE l q := by rw [List.length_take]; have := HLE.out; omega
    have hl2 : (l.take (withinE l r)).length = withinE l r := by rw [List.length_take]; have := HLE.out; omega
    obtain ⟨A1, c1, rfl⟩ := hr1.form
    obtain ⟨A2, c2, rfl⟩ := hr2.form
    rw [hl1] at hr1 ⊢
    rw [hl2] at hr2 ⊢
    have HR1 := Lib.hid hr1
    have HR2 := Lib.hid hr2
    have HL := Lib.hid (And.intro hl1 hl2)
    clear hr1 hr2 hl1 hl2
    generalize hx : withinE l q = x at *
    generalize hy : withinE l r = y at *
    clear hx hy
    have hyb : y ≤ 20 := by have := HLE.out; have := H20.out; omega
    have hxy : x ≤ y := HLE.out.2.2
    have HXY := Lib.hid hxy
    go_wp2
    go_loopw [9, 27] (fun _ i W => ∃ j : Nat, i = .int .i64 j ∧ j ≤ x ∧ w2.grownBy W none) (fun _ i _ => x - (intOf i).toNat)
    case atStart => exact ⟨0, rfl, Nat.zero_le _, grown_refl _ _⟩
    case round =>
      obtain ⟨j, rfl, hj, hg⟩ := hrel
      have HG := Lib.hid hg
      by_cases hjk : j < x
      · have d0 : decide ((j : Int) < (x : Int)) = true := by simp; omega
        have hjy : j < y := by omega
        have HK := Lib.hid (And.intro hjk hjy)
        have HGE := Lib.hid (show decide ((y : Int) ≤ (j : Int)) = false from decide_eq_false (by omega))
        obtain ⟨ad, rfl, hc1⟩ := (HR1.out.grown0 hg).at_ (show j < (l.take x).length by rw [HL.out.1]; exact hjk)
        obtain ⟨ad2, rfl, hc2⟩ := (HR2.out.grown0 hg).at_ (show j < (l.take y).length by rw [HL.out.2]; exact hjy)
        rw [getD_take _ hjk] at hc1
        rw [getD_take _ hjy] at hc2
        generalize l.getD j default = e at *
        have HC1 := Lib.hid (fun W (hW : wr.grownBy W none) => cells_keep hc1 hW)
        have HC2 := Lib.hid (fun W (hW : wr.grownBy W none) => cells_keep hc2 hW)
        clear hc1 hc2 hg
        go_wp2
        · skip
          refine wp_region_walk3 15 [] dis_nil (by kernel_rfl) (by kernel_rfl) (by kernel_rfl) ?_
          simp only [List.take_succ_cons, List.take_zero, List.drop_succ_cons, List.drop_zero]
          refine Walk.val (G := Is (.int .i64 (j : Int))) (stays_is _ _) rfl rfl (fun a w hm hd => ⟨wanted_plain rfl, st_move rfl (by rw [hm.outer 9 (by kernel_rfl)]; rfl)⟩) ?_
          refine Walk.val (G := Is (.slice (some ad2) y c2)) (stays_is _ _) rfl rfl (fun a w hm hd => ⟨wanted_plain rfl, st_move rfl (by rw [hm.outer 8 (by kernel_rfl)]; rfl)⟩) ?_
          refine Walk.val (G := Is (.int .i64 (y : Int))) (stays_is _ _) rfl rfl (fun a w hm hd => ⟨wanted_plain rfl, st_lenP rfl (hd.at_ 1 rfl rfl rfl rfl)⟩) ?_
          refine Walk.val (G := Is (.bool false)) (stays_is _ _) rfl rfl (fun a w hm hd => ⟨wanted_plain rfl, st_geqN rfl (hd.at_ 0 rfl rfl rfl rfl) (hd.at_ 2 rfl rfl rfl rfl) HGE.out⟩) ?_
          refine Walk.val (G := Is (.bool false)) (stays_is _ _) rfl rfl (fun a w hm hd => ⟨wanted_plain rfl, st_move rfl (hd.at_ 3 rfl rfl rfl rfl)⟩) ?_
          refine Walk.val (G := Is (.slice (some ad) x c1)) (stays_is _ _) rfl rfl (fun a w hm hd => ⟨wanted_at rfl rfl (hd.at_ 4 rfl rfl rfl rfl), st_move rfl (by rw [hm.outer 7 (by kernel_rfl)]; rfl)⟩) ?_
          refine Walk.val (G := Is (.int .i64 (j : Int))) (stays_is _ _) rfl rfl (fun a w hm hd => ⟨wanted_at rfl rfl (hd.at_ 4 rfl rfl rfl rfl), st_move rfl (by rw [hm.outer 9 (by kernel_rfl)]; rfl)⟩) ?_
          refine Walk.val (G := Is (.pointer (some (ad.add (j * 7))))) (stays_is _ _) rfl rfl (fun a w hm hd => ⟨wanted_at rfl rfl (hd.at_ 4 rfl rfl rfl rfl), st_idxP rfl (hd.at_ 5 rfl rfl rfl rfl) (hd.at_ 6 rfl rfl rfl rfl) HK.out.1⟩) ?_
          refine Walk.val (G := Is (enV e)) (stays_is _ _) rfl rfl (fun a w hm hd => ⟨wanted_at rfl rfl (hd.at_ 4 rfl rfl rfl rfl), st_loadP rfl (hd.at_ 7 rfl rfl rfl rfl) (fun i u hu => HC1.out w (GrownX.none2 hm.grow) i u hu)⟩) ?_
          refine Walk.val (G := Is (.slice (some ad2) y c2)) (stays_is _ _) rfl rfl (fun a w hm hd => ⟨wanted_at rfl rfl (hd.at_ 4 rfl rfl rfl rfl), st_move rfl (by rw [hm.outer 8 (by kernel_rfl)]; rfl)⟩) ?_
          refine Walk.val (G := Is (.int .i64 (j : Int))) (stays_is _ _) rfl rfl (fun a w hm hd => ⟨wanted_at rfl rfl (hd.at_ 4 rfl rfl rfl rfl), st_move rfl (by rw [hm.outer 9 (by kernel_rfl)]; rfl)⟩) ?_
          refine Walk.val (G := Is (.pointer (some (ad2.add (j * 7))))) (stays_is _ _) rfl rfl (fun a w hm hd => ⟨wanted_at rfl rfl (hd.at_ 4 rfl rfl rfl rfl), st_idxP rfl (hd.at_ 9 rfl rfl rfl rfl) (hd.at_ 10 rfl rfl rfl rfl) HK.out.2⟩) ?_
          refine Walk.val (G := Is (enV e)) (stays_is _ _) rfl rfl (fun a w hm hd => ⟨wanted_at rfl rfl (hd.at_ 4 rfl rfl rfl rfl), st_loadP rfl (hd.at_ 11 rfl rfl rfl rfl) (fun i u hu => HC2.out w (GrownX.none2 hm.grow) i u hu)⟩) ?_
          refine Walk.val (G := Is (.bool (!eqE e e))) (stays_is _ _) rfl rfl (fun a w hm hd => ⟨wanted_at rfl rfl (hd.at_ 4 rfl rfl rfl rfl), st_neP rfl (hd.at_ 8 rfl rfl rfl rfl) (hd.at_ 12 rfl rfl rfl rfl)⟩) ?_
          refine Walk.val (G := Is (.bool (!eqE e e))) (stays_is _ _) rfl rfl (fun a w hm hd => ⟨wanted_plain rfl, st_pickF rfl (hd.at_ 4 rfl rfl rfl rfl) (hd.at_ 13 rfl rfl rfl rfl)⟩) ?_
          intro a9 V9 hm9 hall
          have f44 : Is (.bool (!eqE e e)) (a9.eval (.tmp 44)) V9 := hall 14 _ _ rfl rfl
          have hfr := hm9.frame
          simp only [List.take_succ_cons, List.take_zero, List.filterMap_cons, List.filterMap_nil, List.foldl_cons, List.foldl_nil] at hfr
          have hgV9 := GrownX.none2 hm9.grow
          have f44 : a9.eval (.tmp 44) = _ := f44
          rw [f44] at hfr
          generalize a9.eval (.tmp 30) = e30 at hfr
          generalize a9.eval (.tmp 31) = e31 at hfr
          generalize a9.eval (.tmp 32) = e32 at hfr
          generalize a9.eval (.tmp 33) = e33 at hfr
          generalize a9.eval (.tmp 34) = e34 at hfr
          generalize a9.eval (.tmp 35) = e35 at hfr
          generalize a9.eval (.tmp 36) = e36 at hfr
          generalize a9.eval (.tmp 37) = e37 at hfr
          generalize a9.eval (.tmp 38) = e38 at hfr
          generalize a9.eval (.tmp 39) = e39 at hfr
          generalize a9.eval (.tmp 40) = e40 at hfr
          generalize a9.eval (.tmp 41) = e41 at hfr
          generalize a9.eval (.tmp 42) = e42 at hfr
          generalize a9.eval (.tmp 43) = e43 at hfr
          clear hall hm9
          unfold wpList
          rw [hfr]
          clear hfr
          go_simp
          have hee : (!eqE e e) = false := by simp [(eqE_iff e e).2 rfl]
          rw [hee]
          go_wp2
          go_roundw
          case rel => exact ⟨j + 1, by go_num, hjk, World.grownBy.trans HG.out hgV9⟩
          case measure =>
            simp [intOf]
            omega
      · have d0 : decide ((j : Int) < (x : Int)) = false := decide_eq_false (by omega)
        have d3 : decide ((x : Int) ≤ (y : Int)) = true := decide_eq_true (by omega)
        have HV3 := Lib.hid (HV2.out.grown0 hg)
        clear hg
        go_wp2_with fail
        refine (HFI.out _ HV3.out).mono ?_
        rintro e5 w5 ⟨rfl, hg5⟩
        have G5 := Lib.hid (World.grownBy.trans G2.out (World.grownBy.trans HG.out hg5))
        have HV5 := Lib.hid (HV3.out.grown0 hg5)
        clear hg5
        cases hf : fineE l
        · go_wp2_with fail
          refine (HAW.out _).mono ?_
          rintro e6 w6 ⟨rfl, hg6⟩
          go_wp2
          go_ret
          exact ⟨rfl, World.grownBy.trans G5.out hg6⟩
        · have HWF := Lib.hid (HWT.out hf)
          go_wp2_with fail
          refine (HTO.out _ HV5.out).mono ?_
          rintro e6 w6 ⟨rfl, hg6⟩
          have G6 := Lib.hid (World.grownBy.trans G5.out hg6)
          have HV6 := Lib.hid (HV5.out.grown0 hg6)
          clear hg6
          go_wp2_with fail
          refine (HWI.out _ _ HTI.out HV6.out).mono ?_
          rintro e7 w7 ⟨u7, rfl, hr7, hg7⟩
          have G7 := Lib.hid (World.grownBy.trans G6.out hg7)
          rw [HWF.out, List.take_length] at hr7
          obtain ⟨A7, c7, rfl⟩ := hr7.form
          clear hg7 hr7
          go_wp2_with fail
          refine (HAW.out _).mono ?_
          rintro e8 w8 ⟨rfl, hg8⟩
          go_wp2
          go_ret
          exact ⟨rfl, World.grownBy.trans G7.out hg8⟩
  · clear hwi hfi hto hq hr
    cases hs : shortB l
    · rw [hs] at HSH
      clear hok
      go_enter Tryd.func8, Tryd.ntmps8
      go_wp2_with fail
      refine HSH.out.mono ?_
      rintro e0 w0 ⟨rfl, hg0⟩
      go_wp2_with fail
      refine (HAW.out _).mono ?_
      rintro e1 w1 ⟨rfl, hg1⟩
      go_wp2
      go_ret
      exact ⟨rfl, hg0.trans hg1⟩
    · rw [hs] at HSH
      have d1 : decide (r < q) = true := decide_eq_true (by have h9 : ¬ q ≤ r := fun h => hok ⟨hs, h⟩; omega)
      clear hok
      go_enter Tryd.func8, Tryd.ntmps8
      go_wp2_with fail
      refine HSH.out.mono ?_
      rintro e0 w0 ⟨rfl, hg0⟩
      go_wp2_with fail
      refine (HAW.out _).mono ?_
      rintro e1 w1 ⟨rfl, hg1⟩
      go_wp2
      go_ret
      exact ⟨rfl, hg0.trans hg1⟩
end Go.Proofs.YtiakkfcjdmecdaaDoor
