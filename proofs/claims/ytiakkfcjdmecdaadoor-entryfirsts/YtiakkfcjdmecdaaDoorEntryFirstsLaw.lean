/-
  EntryFirsts' walk (P13.1), out of what Of, Fine and awake answer.
-/
import Derived.Test.YtiakkfcjdmecdaaDoorEnSlice
namespace Go.Proofs.YtiakkfcjdmecdaaDoor
set_option maxRecDepth 1000000
open Go.RowKit

theorem RdF.few {w : World} {A : Option Addr} {n c : Nat} {l : List Fl} (h : RdF w (.slice A n c) l) : n ≤ 9223372036854775807 := by
  have := h.len.2; simp only [maxLen] at this; omega
set_option maxHeartbeats 8000000 in
theorem entryFirsts_walk (haw : HasAwake) (hof : HasOf) (hfi : HasFine) (A : Option Addr) (n c : Nat) (l : List Fl) (q : Int) (w : World) (hv : RdF w (.slice A n c) l) :
    Calls Tryd.prog 9 #[.slice A n c, .int .i64 q] w (Val (.bool true) w) := by
  have HFW := Lib.hid (few_any A n c l w hv)
  have hln := hv.len.1
  subst hln
  have HV := Lib.hid hv
  have HAW := Lib.hid haw
  clear hv haw
  by_cases hok : fewB l = true ∧ 0 ≤ q ∧ q ≤ (l.length : Int)
  · obtain ⟨hs, hq0, hq1⟩ := hok
    rw [hs] at HFW
    have hfew : FewF l := fewB_len hs
    obtain ⟨k, rfl⟩ := Int.eq_ofNat_of_zero_le hq0
    have hkl : k ≤ l.length := by omega
    have hfk : FewF (l.take k) := ⟨by have := hfew.1; rw [List.length_take]; omega, fun f hf => hfew.2 f (List.mem_of_mem_take hf)⟩
    have HOF := Lib.hid (fun v w' (h : RdF w' v l) => hof v l w' h hfew)
    have HOK := Lib.hid (fun v w' (h : RdF w' v (l.take k)) => hof v (l.take k) w' h hfk)
    obtain ⟨hm, h12⟩ := few_lens hfk
    have HKL := Lib.hid (And.intro hkl hfew.1)
    have d1 : decide ((k : Int) < 0) = false := decide_eq_false (by omega)
    have d2 : decide (l.length < k) = false := decide_eq_false (by omega)
    clear hof hfew hfk hs hq0 hq1 hkl
    go_enter Tryd.func9, Tryd.ntmps9
    go_wp2_with fail
    refine HFW.out.mono ?_
    rintro e0 w0 ⟨rfl, hg0⟩
    have G0 := Lib.hid hg0
    have HV0 := Lib.hid (HV.out.grown0 hg0)
    clear hg0
    go_wp2_with fail
    refine (HOF.out _ _ HV0.out).mono ?_
    rintro e1 w1 ⟨u, rfl, hg1, hr1⟩
    have G1 := Lib.hid (World.grownBy.trans G0.out hg1)
    have HV1 := Lib.hid (HV0.out.grown0 hg1)
    have HR1 := Lib.hid hr1
    clear hg1 hr1
    go_wp2_with (refine wpList_runsE rfl (st_takeF k rfl HV1.out rfl rfl HKL.out.1) ?_; intro v3 hv3; have HV3 := Lib.hid hv3; clear hv3)
    refine (HOK.out _ _ HV3.out).mono ?_
    rintro e2 w2 ⟨u2, rfl, hg2, hr2⟩
    have G2 := Lib.hid (World.grownBy.trans G1.out hg2)
    have HU2 := Lib.hid (HR1.out.grown0 hg2)
    have HR2 := Lib.hid hr2
    clear hg2 hr2
    by_cases h0 : whyE (toldF 0 l) = 0
    · have h1 := why_take h0 k
      have HFI := Lib.hid (show fineE (toldF 0 (l.take k)) = true by rw [fine_told, h1]; rfl)
      have HSZ : Sizes (toldF 0 (l.take k)) := fun e he => by have := (why_zero h1).size e he; omega
      have HFN := Lib.hid (fun v w' (h : RdE w' v (toldF 0 (l.take k))) => HFI.out ▸ hfi v (toldF 0 (l.take k)) w' h hm HSZ (by omega))
      have HR1' := HU2.out
      have HR2' := HR2.out
      rw [if_pos h0] at HR1'
      rw [if_pos h1] at HR2'
      rw [h0, h1]
      clear HU2 HR2 HR1 hfi HSZ
      have htk := toldF_take l 0 k
      have hlt := toldF_len 0 l
      have hlk : (toldF 0 (l.take k)).length = k := by rw [toldF_len, List.length_take]; have := HKL.out.1; omega
      obtain ⟨A1, c1, rfl⟩ := HR1'.form
      obtain ⟨A2, c2, rfl⟩ := HR2'.form
      rw [hlt] at HR1' ⊢
      rw [hlk] at HR2' ⊢
      have HA := Lib.hid HR1'
      have HB := Lib.hid HR2'
      have HTK := Lib.hid htk
      have HLT := Lib.hid hlt
      have HLK := Lib.hid hlk
      have hkb : k ≤ 12 := by have := HKL.out; omega
      clear HR1' HR2' htk hlt hlk h0 h1
      obtain ⟨L, hL⟩ : ∃ L, l.length = L := ⟨_, rfl⟩
      have HLL := Lib.hid hL
      rw [hL] at HA d2 ⊢
      clear hL
      go_wp2
      go_loopw [9, 41] (fun _ i W => ∃ j : Nat, i = .int .i64 j ∧ j ≤ k ∧ w2.grownBy W none) (fun _ i _ => k - (intOf i).toNat)
      case atStart => exact ⟨0, rfl, Nat.zero_le _, grown_refl _ _⟩
      case round =>
        obtain ⟨j, rfl, hj, hg⟩ := hrel
        have HG := Lib.hid hg
        by_cases hjk : j < k
        · have d0 : decide ((j : Int) < (k : Int)) = true := by simp; omega
          have HK := Lib.hid (And.intro (show j < L by have := HKL.out; have := HLL.out; omega) hjk)
          obtain ⟨ad, rfl, hc1⟩ := (HA.out.grown0 hg).at_ (show j < (toldF 0 l).length by rw [HLT.out]; have := HKL.out; omega)
          obtain ⟨ad2, rfl, hc2⟩ := (HB.out.grown0 hg).at_ (show j < (toldF 0 (l.take k)).length by rw [HLK.out]; exact hjk)
          rw [HTK.out, getD_take _ hjk] at hc2
          generalize (toldF 0 l).getD j default = e at *
          have HC1 := Lib.hid (fun W (hW : wr.grownBy W none) => cells_keep hc1 hW)
          have HC2 := Lib.hid (fun W (hW : wr.grownBy W none) => cells_keep hc2 hW)
          clear hc1 hc2 hg
          go_wp2
          refine wp_region_walk3 9 [] dis_nil (by kernel_rfl) (by kernel_rfl) (by kernel_rfl) ?_
          simp only [List.take_succ_cons, List.take_zero, List.drop_succ_cons, List.drop_zero]
          refine Walk.val (G := Is (.slice (some ad) L c1)) (stays_is _ _) rfl rfl (fun a w hm hd => ⟨wanted_plain rfl, st_move rfl (by rw [hm.outer 5 (by kernel_rfl)]; rfl)⟩) ?_
          refine Walk.val (G := Is (.int .i64 (j : Int))) (stays_is _ _) rfl rfl (fun a w hm hd => ⟨wanted_plain rfl, st_move rfl (by rw [hm.outer 9 (by kernel_rfl)]; rfl)⟩) ?_
          refine Walk.val (G := Is (.pointer (some (ad.add (j * 7))))) (stays_is _ _) rfl rfl (fun a w hm hd => ⟨wanted_plain rfl, st_idxP rfl (hd.at_ 0 rfl rfl rfl rfl) (hd.at_ 1 rfl rfl rfl rfl) HK.out.1⟩) ?_
          refine Walk.val (G := Is (enV e)) (stays_is _ _) rfl rfl (fun a w hm hd => ⟨wanted_plain rfl, st_loadP rfl (hd.at_ 2 rfl rfl rfl rfl) (fun i u hu => HC1.out w (GrownX.none2 hm.grow) i u hu)⟩) ?_
          refine Walk.val (G := Is (.slice (some ad2) k c2)) (stays_is _ _) rfl rfl (fun a w hm hd => ⟨wanted_plain rfl, st_move rfl (by rw [hm.outer 7 (by kernel_rfl)]; rfl)⟩) ?_
          refine Walk.val (G := Is (.int .i64 (j : Int))) (stays_is _ _) rfl rfl (fun a w hm hd => ⟨wanted_plain rfl, st_move rfl (by rw [hm.outer 9 (by kernel_rfl)]; rfl)⟩) ?_
          refine Walk.val (G := Is (.pointer (some (ad2.add (j * 7))))) (stays_is _ _) rfl rfl (fun a w hm hd => ⟨wanted_plain rfl, st_idxP rfl (hd.at_ 4 rfl rfl rfl rfl) (hd.at_ 5 rfl rfl rfl rfl) HK.out.2⟩) ?_
          refine Walk.val (G := Is (enV e)) (stays_is _ _) rfl rfl (fun a w hm hd => ⟨wanted_plain rfl, st_loadP rfl (hd.at_ 6 rfl rfl rfl rfl) (fun i u hu => HC2.out w (GrownX.none2 hm.grow) i u hu)⟩) ?_
          refine Walk.val (G := Is (.bool (!eqE e e))) (stays_is _ _) rfl rfl (fun a w hm hd => ⟨wanted_plain rfl, st_neP rfl (hd.at_ 3 rfl rfl rfl rfl) (hd.at_ 7 rfl rfl rfl rfl)⟩) ?_
          intro a9 V9 hm9 hall
          have f52 : Is (.bool (!eqE e e)) (a9.eval (.tmp 52)) V9 := hall 8 _ _ rfl rfl
          have hfr := hm9.frame
          simp only [List.take_succ_cons, List.take_zero, List.filterMap_cons, List.filterMap_nil, List.foldl_cons, List.foldl_nil] at hfr
          have hgV9 := GrownX.none2 hm9.grow
          have f52 : a9.eval (.tmp 52) = _ := f52
          rw [f52] at hfr
          generalize a9.eval (.tmp 44) = e44 at hfr
          generalize a9.eval (.tmp 45) = e45 at hfr
          generalize a9.eval (.tmp 46) = e46 at hfr
          generalize a9.eval (.tmp 47) = e47 at hfr
          generalize a9.eval (.tmp 48) = e48 at hfr
          generalize a9.eval (.tmp 49) = e49 at hfr
          generalize a9.eval (.tmp 50) = e50 at hfr
          generalize a9.eval (.tmp 51) = e51 at hfr
          clear hall hm9
          unfold wpList
          rw [hfr]
          clear hfr
          go_simp
          have hee : (!eqE e e) = false := by simp [(eqE_iff e e).2 rfl]
          rw [hee]
          go_wp2
          go_roundw
          case rel => exact ⟨j + 1, by go_num, hjk, World.grownBy.trans HG.out hgV9⟩
          case measure =>
            simp [intOf]
            omega
        · have d0 : decide ((j : Int) < (k : Int)) = false := decide_eq_false (by omega)
          have HA2 := Lib.hid (HA.out.grown0 hg)
          clear hg
          go_wp2_with (refine wpList_runsE rfl (st_takeP k rfl HA2.out rfl rfl (by rw [HLT.out]; exact HKL.out.1)) ?_; intro v4 hv4; have HV4 := Lib.hid (show RdE _ v4 (toldF 0 (l.take k)) by rw [HTK.out]; exact hv4); clear hv4)
          refine (HFN.out _ _ HV4.out).mono ?_
          rintro e5 w5 ⟨rfl, hg5⟩
          have G5 := Lib.hid (World.grownBy.trans G2.out (World.grownBy.trans HG.out hg5))
          clear hg5
          go_wp2_with fail
          refine (HAW.out _).mono ?_
          rintro e6 w6 ⟨rfl, hg6⟩
          go_wp2
          go_ret
          exact ⟨rfl, World.grownBy.trans G5.out hg6⟩
    · have e1 : (whyE (toldF 0 l) == 0) = false := beq_eq_false_iff_ne.2 h0
      have e2 : (whyE (toldF 0 l) != 0) = true := by rw [bne, e1]; rfl
      clear HU2 HR1 HR2 hfi hm h12 h0
      generalize whyE (toldF 0 l) = z at *
      generalize whyE (toldF 0 (l.take k)) = z2 at *
      go_wp2_with fail
      refine (HAW.out _).mono ?_
      rintro e6 w6 ⟨rfl, hg6⟩
      go_wp2
      go_ret
      exact ⟨rfl, World.grownBy.trans G2.out hg6⟩
  · clear hof hfi
    cases hs : fewB l
    · rw [hs] at HFW
      clear hok
      go_enter Tryd.func9, Tryd.ntmps9
      go_wp2_with fail
      refine HFW.out.mono ?_
      rintro e0 w0 ⟨rfl, hg0⟩
      go_wp2_with fail
      refine (HAW.out _).mono ?_
      rintro e1 w1 ⟨rfl, hg1⟩
      go_wp2
      go_ret
      exact ⟨rfl, hg0.trans hg1⟩
    · rw [hs] at HFW
      by_cases hq : q < 0
      · have d1 : decide (q < 0) = true := decide_eq_true hq
        clear hok
        go_enter Tryd.func9, Tryd.ntmps9
        go_wp2_with fail
        refine HFW.out.mono ?_
        rintro e0 w0 ⟨rfl, hg0⟩
        go_wp2_with fail
        refine (HAW.out _).mono ?_
        rintro e1 w1 ⟨rfl, hg1⟩
        go_wp2
        go_ret
        exact ⟨rfl, hg0.trans hg1⟩
      · have d1 : decide (q < 0) = false := decide_eq_false hq
        have d2 : decide ((l.length : Int) < q) = true := decide_eq_true (by have h9 : ¬ q ≤ (l.length : Int) := fun h => hok ⟨hs, by omega, h⟩; omega)
        clear hok
        go_enter Tryd.func9, Tryd.ntmps9
        go_wp2_with fail
        refine HFW.out.mono ?_
        rintro e0 w0 ⟨rfl, hg0⟩
        go_wp2_with fail
        refine (HAW.out _).mono ?_
        rintro e1 w1 ⟨rfl, hg1⟩
        go_wp2
        go_ret
        exact ⟨rfl, hg0.trans hg1⟩
end Go.Proofs.YtiakkfcjdmecdaaDoor
