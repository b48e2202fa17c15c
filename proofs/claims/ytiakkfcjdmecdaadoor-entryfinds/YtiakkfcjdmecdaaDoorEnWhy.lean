/-
  The document's Why (portmanteauref13) over this program.
-/
import Derived.Test.YtiakkfcjdmecdaaDoorEnM
import Derived.Test.YtiakkfcjdmecdaaDoorMPtR
namespace Go.Proofs.YtiakkfcjdmecdaaDoor
set_option maxRecDepth 1000000
open Go.RowKit

theorem exE_max0 {o : Oper} {a : Act} {w : World} {x : Operand} {q : Int} (h : o.op = .call { callee := .builtin .max, args := #[x, .const (.int .i64 0)], argTypes := #[3, 3] }) (hx : a.eval x = .int .i64 q) : (execOp a.eval o).run Tryd.prog w = .ok (.value (.int .i64 (max q 0))) w := by
  have hc : a.eval (.const (.int .i64 0)) = .int .i64 0 := rfl
  unfold execOp
  simp only [h, resolve, invoke, builtin, List.map_toArray, List.map_cons, List.map_nil, hx, hc]
  simp [go_sem]
  all_goals (rw [Int.max_def]; split <;> split <;> first | rfl | omega)
theorem sumE_bound (l : List En) (h : l.all (fun e => decide (e.size ≤ 1048576)) = true) : 0 ≤ sumE l ∧ sumE l ≤ 1048576 * (l.length : Int) := by
  induction l with
  | nil => simp [sumE]
  | cons e l ih =>
    simp only [List.all_cons, Bool.and_eq_true, decide_eq_true_eq] at h
    have := ih h.2
    simp only [sumE, List.length_cons]
    omega
theorem ascTo_one (l : List En) : ascTo l 1 = true := by simp [ascTo, List.range_succ]

set_option maxRecDepth 1000000 in
set_option maxHeartbeats 16000000 in
theorem refWhy_any (A : Option Addr) (n c m : Nat) (l : List En) (w : World) (hr : RdE w (.slice A n c) l) (hm : Lens l m) (hmb : m < 1000000) (hnb : n ≤ 1000000) :
    Calls Tryd.prog 15 #[.slice A n c] w (Val (.int .i64 (whyE l)) w) := by
  have hln := hr.len.1
  subst hln
  have HR := Lib.hid hr
  have HM := Lib.hid hm
  clear hr hm
  go_enter Tryd.func15, Tryd.ntmps15
  go_wp2
  go_loopw [3] (fun i W => ∃ k : Nat, i = .int .i64 k ∧ k ≤ l.length ∧ (l.take k).all (fun e => rightB e.path) = true ∧ w.grownBy W none) (fun i _ => l.length - (intOf i).toNat)
  case atStart => exact ⟨0, rfl, Nat.zero_le _, by simp, grown_refl _ _⟩
  case round =>
    obtain ⟨k, rfl, hk, hall, hg⟩ := hrel
    have HA := Lib.hid hall
    have G0 := Lib.hid hg
    clear hall hg
    by_cases h : k < l.length
    · have d0 : decide ((k : Int) < (l.length : Int)) = true := by simp; omega
      obtain ⟨ad, rfl, c0, _, _, _, _, _, _⟩ := (HR.out.grown0 G0.out).step h
      have HS := Lib.hid (HM.out.at_ h)
      have HN := Lib.hid (allE_next l (fun e => rightB e.path) k h HA.out)
      have HO := Lib.hid (allE_not l (fun e => rightB e.path) k h)
      generalize l.getD k default = e at *
      have H1 := Lib.hid (fun w' => refRight_any (bts e.path) w' (by have := HS.out.1; omega))
      go_wp2_with fail
      refine (H1.out _).mono ?_
      rintro e1 w1 ⟨rfl, hg⟩
      have G1 := Lib.hid (World.grownBy.trans G0.out hg)
      clear hg
      rw [bts_data]
      cases hrp : rightB e.path
      · have HE := Lib.hid (show whyE l = 9 by rw [whyE, if_pos (HO.out hrp)])
        go_wp2
        go_ret
        exact ⟨by rw [HE.out]; rfl, G1.out⟩
      · go_wp2
        go_roundw
        case rel => exact ⟨k + 1, by go_num, h, by rw [HN.out]; exact hrp, G1.out⟩
        case measure =>
          simp [intOf]
          omega
    · have d0 : decide ((k : Int) < (l.length : Int)) = false := by simp; omega
      have HP1 := Lib.hid (allE_end l (fun e => rightB e.path) k (by omega) HA.out)
      go_wp2
      go_loopw [4] (fun i W => ∃ k : Nat, i = .int .i64 k ∧ 1 ≤ k ∧ (k ≤ l.length ∨ k = 1) ∧ ascTo l k = true ∧ w.grownBy W none) (fun i _ => l.length - (intOf i).toNat)
      case atStart => exact ⟨1, rfl, Nat.le_refl _, .inr rfl, ascTo_one l, G0.out⟩
      case round =>
        clear HA G0
        obtain ⟨k, rfl, hk1, hk, hall, hg⟩ := hrel
        have HA := Lib.hid hall
        have G0 := Lib.hid hg
        clear hall hg
        by_cases h : k < l.length
        · obtain ⟨j, hkj⟩ : ∃ j, k = j + 1 := ⟨k - 1, by omega⟩
          have d0 : decide ((k : Int) < (l.length : Int)) = true := decide_eq_true (by omega)
          have hjl : (j : Int) < (l.length : Int) := by omega
          have hki : (k : Int) < (l.length : Int) := by omega
          have c3 : (k : Int) - 1 = (j : Int) := by omega
          obtain ⟨ad, rfl, c0, _, _, _, _, _, _⟩ := (HR.out.grown0 G0.out).step h
          obtain ⟨ad', hae, p0, _, _, _, _, _, _⟩ := (HR.out.grown0 G0.out).step (show j < l.length by omega)
          cases hae
          have HS := Lib.hid (HM.out.at_ h)
          have HS2 := Lib.hid (HM.out.at_ (show j < l.length by omega))
          have HN := Lib.hid (ascTo_next l k)
          have HO := Lib.hid (asc_not l k h)
          rw [show k - 1 = j by omega] at HN HO
          generalize l.getD k default = e at *
          generalize l.getD j default = e' at *
          have H1 := Lib.hid (fun w' => refCompare_any (bts e'.path) (bts e.path) w' (by have := HS2.out.1; omega) (by have := HS.out.1; omega))
          have c0d : wr.drew.cell? (ad.add (k * 7)) = some (.string (bts e.path)) := c0
          have p0d : wr.drew.cell? (ad.add (j * 7)) = some (.string (bts e'.path)) := p0
          have GD := Lib.hid (grown_drew G0.out)
          have hj0 : (k == 0) = false := beq_eq_false_iff_ne.2 (by omega)
          have HKJ := Lib.hid hkj
          clear c0 p0 hkj
          go_wp2
          refine wp_region_still_tail 11 (by kernel_rfl) (by kernel_rfl) ?_
          change wpStill _ _ wr.drew (fun a' => wpList _ _ _ _ a' wr.drew) _ _
          generalize wr.drew = W6 at *
          simp only [List.take_succ_cons, List.take_zero, List.drop_succ_cons, List.drop_zero]
          have hwj : IntKind.i64.wrap (j : Int) = (j : Int) := by rw [IntKind.wrap_i64]; omega
          repeat still_step
          clear hwj
          refine wpStill_nil ?_
          go_wp2_with fail
          refine (H1.out _).mono ?_
          rintro e1 w1 ⟨rfl, hg⟩
          have G1 := Lib.hid (World.grownBy.trans GD.out hg)
          clear hg
          rw [bts_data, bts_data]
          generalize cmpP e'.path e.path = z at *
          by_cases hz : z < 0
          · have dz : decide (0 ≤ z) = false := decide_eq_false (by omega)
            have HZ := Lib.hid (show ascTo l (k + 1) = true by rw [HN.out, HA.out, decide_eq_true hz]; simp)
            clear hz
            go_wp2
            go_roundw
            case rel => exact ⟨k + 1, by go_num, by omega, .inl (by omega), HZ.out, G1.out⟩
            case measure =>
              simp [intOf]
              omega
          · have dz : decide (0 ≤ z) = true := decide_eq_true (by omega)
            have HE := Lib.hid (show whyE l = 10 by rw [whyE, if_neg (by rw [HP1.out]; decide), if_pos (HO.out (by rw [hj0, decide_eq_false hz]; rfl))])
            clear hz
            go_wp2
            go_ret
            exact ⟨by rw [HE.out]; rfl, G1.out⟩
        · have d0 : decide ((k : Int) < (l.length : Int)) = false := decide_eq_false (by omega)
          have HP2 := Lib.hid (show ascTo l l.length = true by
            rcases hk with hk | hk
            · rw [show l.length = k by omega]; exact HA.out
            · by_cases h0 : l.length = 0
              · rw [h0]; rfl
              · rw [show l.length = 1 by omega]; exact ascTo_one l)
          by_cases h1024 : 1024 < l.length
          · have d1 : decide ((1024 : Int) < (l.length : Int)) = true := decide_eq_true (by omega)
            have HE := Lib.hid (show whyE l = 7 by rw [whyE, if_neg (by rw [HP1.out]; decide), if_neg (by rw [HP2.out]; decide), if_pos h1024])
            go_wp2
            go_ret
            exact ⟨by rw [HE.out]; rfl, G0.out⟩
          · have d1 : decide ((1024 : Int) < (l.length : Int)) = false := decide_eq_false (by omega)
            go_wp2
            go_loopw [5, 6] (fun s i W => ∃ k : Nat, i = .int .i64 k ∧ k ≤ l.length ∧ s = .int .i64 (sumE (l.take k)) ∧ (l.take k).all (fun e => decide (e.size ≤ 1048576)) = true ∧ w.grownBy W none) (fun _ i _ => l.length - (intOf i).toNat)
            case atStart => exact ⟨0, rfl, Nat.zero_le _, rfl, by simp, G0.out⟩
            case round =>
              clear HA G0 hk hk1 h d0
              obtain ⟨k, rfl, hk, rfl, hall, hg⟩ := hrel
              have HA := Lib.hid hall
              have G0 := Lib.hid hg
              have hsb := sumE_bound _ hall
              rw [List.length_take, Nat.min_eq_left hk] at hsb
              clear hall hg
              by_cases h : k < l.length
              · have d0 : decide ((k : Int) < (l.length : Int)) = true := by simp; omega
                obtain ⟨ad, rfl, _, _, _, _, _, _, c6⟩ := (HR.out.grown0 G0.out).step h
                have HN := Lib.hid (allE_next l (fun e => decide (e.size ≤ 1048576)) k h HA.out)
                have HO := Lib.hid (allE_not l (fun e => decide (e.size ≤ 1048576)) k h)
                have HSN := Lib.hid (sumE_next l k h)
                generalize l.getD k default = e at *
                generalize sumE (l.take k) = s at *
                by_cases hz : e.size ≤ 1048576
                · have dz : decide (1048576 < e.size) = false := decide_eq_false (by omega)
                  have HZ := Lib.hid (decide_eq_true hz)
                  obtain ⟨q, hq, hq2⟩ : ∃ q : Int, max e.size 0 = q ∧ 0 ≤ q ∧ q ≤ 1048576 := ⟨_, rfl, by omega, by omega⟩
                  rw [hq] at HSN
                  have hw64 : wrap64 (s + q) = s + q := by unfold wrap64; omega
                  clear hz
                  go_wp2_with (refine wpList_runs rfl (exE_max0 rfl rfl) ?_; rw [hq])
                  go_roundw
                  case rel => exact ⟨k + 1, by go_num, h, by rw [HSN.out], by rw [HN.out]; exact HZ.out, G0.out⟩
                  case measure =>
                    simp [intOf]
                    omega
                · have dz : decide (1048576 < e.size) = true := decide_eq_true (by omega)
                  have HE := Lib.hid (show whyE l = 7 by rw [whyE, if_neg (by rw [HP1.out]; decide), if_neg (by rw [HP2.out]; decide), if_neg h1024, if_pos (HO.out (decide_eq_false hz))])
                  clear hz
                  go_wp2
                  go_ret
                  exact ⟨by rw [HE.out]; rfl, G0.out⟩
              · have d0 : decide ((k : Int) < (l.length : Int)) = false := decide_eq_false (by omega)
                have HP4 := Lib.hid (allE_end l (fun e => decide (e.size ≤ 1048576)) k (by omega) HA.out)
                have hsl : sumE (l.take k) = sumE l := by rw [List.take_of_length_le (by omega)]
                rw [hsl]
                clear hsl hsb
                by_cases hs : 4194304 < sumE l
                · have d2 : decide (4194304 < sumE l) = true := decide_eq_true hs
                  have HE := Lib.hid (show whyE l = 7 by rw [whyE, if_neg (by rw [HP1.out]; decide), if_neg (by rw [HP2.out]; decide), if_neg h1024, if_neg (by rw [HP4.out]; decide), if_pos hs])
                  clear hs
                  generalize sumE l = s at *
                  go_wp2
                  go_ret
                  exact ⟨by rw [HE.out]; rfl, G0.out⟩
                · have d2 : decide (4194304 < sumE l) = false := decide_eq_false hs
                  have HLAST := Lib.hid (show whyE l = if l.all okE = false then 1 else 0 by rw [whyE, if_neg (by rw [HP1.out]; decide), if_neg (by rw [HP2.out]; decide), if_neg h1024, if_neg (by rw [HP4.out]; decide), if_neg hs])
                  clear hs
                  generalize sumE l = s at *
                  go_wp2
                  go_loopw [7] (fun i W => ∃ k : Nat, i = .int .i64 k ∧ k ≤ l.length ∧ (l.take k).all okE = true ∧ w.grownBy W none) (fun i _ => l.length - (intOf i).toNat)
                  case atStart => exact ⟨0, rfl, Nat.zero_le _, by simp, G0.out⟩
                  case round =>
                    clear HA G0 hk h d0
                    obtain ⟨k, rfl, hk, hall, hg⟩ := hrel
                    have HA := Lib.hid hall
                    have G0 := Lib.hid hg
                    clear hall hg
                    by_cases h : k < l.length
                    · have d0 : decide ((k : Int) < (l.length : Int)) = true := by simp; omega
                      obtain ⟨ad, rfl, c0, c1, c2, c3, c4, c5, c6⟩ := (HR.out.grown0 G0.out).step h
                      have HN := Lib.hid (allE_next l okE k h HA.out)
                      have HO := Lib.hid (allE_not l okE k h)
                      generalize l.getD k default = e at *
                      by_cases m1 : e.mode < 0
                      · have dm1 : decide (e.mode < 0) = true := decide_eq_true m1
                        have HE := Lib.hid (show whyE l = 1 by rw [HLAST.out, if_pos (HO.out (by unfold okE; rw [dm1]; simp))])
                        try clear hzt
                        go_wp2
                        go_ret
                        exact ⟨by rw [HE.out]; rfl, grown_alloc G0.out _⟩
                      · have dm1 : decide (e.mode < 0) = false := decide_eq_false m1
                        by_cases m2 : 4095 < e.mode
                        · have dm2 : decide (4095 < e.mode) = true := decide_eq_true m2
                          have HE := Lib.hid (show whyE l = 1 by rw [HLAST.out, if_pos (HO.out (by unfold okE; rw [dm2]; simp))])
                          try clear hzt
                          go_wp2
                          go_ret
                          exact ⟨by rw [HE.out]; rfl, grown_alloc G0.out _⟩
                        · have dm2 : decide (4095 < e.mode) = false := decide_eq_false m2
                          by_cases t1 : e.time < 0
                          · have dt1 : decide (e.time < 0) = true := decide_eq_true t1
                            have HE := Lib.hid (show whyE l = 1 by rw [HLAST.out, if_pos (HO.out (by unfold okE; rw [dt1]; simp))])
                            try clear hzt
                            go_wp2
                            go_ret
                            exact ⟨by rw [HE.out]; rfl, grown_alloc G0.out _⟩
                          · have dt1 : decide (e.time < 0) = false := decide_eq_false t1
                            by_cases t2 : 1099511627775 < e.time
                            · have dt2 : decide (1099511627775 < e.time) = true := decide_eq_true t2
                              have HE := Lib.hid (show whyE l = 1 by rw [HLAST.out, if_pos (HO.out (by unfold okE; rw [dt2]; simp))])
                              try clear hzt
                              go_wp2
                              go_ret
                              exact ⟨by rw [HE.out]; rfl, grown_alloc G0.out _⟩
                            · have dt2 : decide (1099511627775 < e.time) = false := decide_eq_false t2
                              by_cases s1 : e.size < 0
                              · have ds1 : decide (e.size < 0) = true := decide_eq_true s1
                                have HE := Lib.hid (show whyE l = 1 by rw [HLAST.out, if_pos (HO.out (by unfold okE; rw [ds1]; simp))])
                                try clear hzt
                                go_wp2
                                go_ret
                                exact ⟨by rw [HE.out]; rfl, grown_alloc G0.out _⟩
                              · have ds1 : decide (e.size < 0) = false := decide_eq_false s1
                                by_cases k1 : e.kind < 1
                                · have dk1 : decide (e.kind < 1) = true := decide_eq_true k1
                                  have HE := Lib.hid (show whyE l = 1 by rw [HLAST.out, if_pos (HO.out (by unfold okE; rw [dk1]; simp))])
                                  try clear hzt
                                  go_wp2
                                  go_ret
                                  exact ⟨by rw [HE.out]; rfl, grown_alloc G0.out _⟩
                                · have dk1 : decide (e.kind < 1) = false := decide_eq_false k1
                                  by_cases k2 : 3 < e.kind
                                  · have dk2 : decide (3 < e.kind) = true := decide_eq_true k2
                                    have HE := Lib.hid (show whyE l = 1 by rw [HLAST.out, if_pos (HO.out (by unfold okE; rw [dk2]; simp))])
                                    try clear hzt
                                    go_wp2
                                    go_ret
                                    exact ⟨by rw [HE.out]; rfl, grown_alloc G0.out _⟩
                                  · have dk2 : decide (3 < e.kind) = false := decide_eq_false k2
                                    have hzt := bts_size e.to
                                    by_cases h1 : e.kind = 1
                                    · have HSZ := Lib.hid (show True from trivial)
                                      have q1 : (e.kind == 1) = true := beq_iff_eq.2 (by omega)
                                      have q3 : (e.kind == 3) = false := beq_eq_false_iff_ne.2 (by omega)
                                      have r1 : (e.kind != 1) = false := by rw [bne, q1]; rfl
                                      have r3 : (e.kind != 3) = true := by rw [bne, q3]; rfl
                                      by_cases y0 : e.to.length = 0
                                      · skip
                                        have z0 : (((bts e.to).size : Int) == 0) = true := beq_iff_eq.2 (by omega)
                                        have z0' : ((bts e.to).size == 0) = true := beq_iff_eq.2 (by omega)
                                        have zp : decide ((0 : Int) < ((bts e.to).size : Int)) = false := decide_eq_false (by omega)
                                        have zp' : decide (0 < (bts e.to).size) = false := decide_eq_false (by omega)
                                        have hl0 : (e.to.length == 0) = true := beq_iff_eq.2 (by omega)
                                        have hlp : decide (0 < e.to.length) = false := decide_eq_false (by omega)
                                        have HE := Lib.hid (show okE e = true by unfold okE; rw [dm1, dm2, dt1, dt2, ds1, dk1, dk2, r1, r3, q3, hlp]; simp)
                                        try clear hzt
                                        go_wp2
                                        go_roundw
                                        case rel => exact ⟨k + 1, by go_num, h, by rw [HN.out]; exact HE.out, grown_alloc G0.out _⟩
                                        case measure =>
                                          simp [intOf]
                                          omega
                                      · skip
                                        have z0 : (((bts e.to).size : Int) == 0) = false := beq_eq_false_iff_ne.2 (by omega)
                                        have z0' : ((bts e.to).size == 0) = false := beq_eq_false_iff_ne.2 (by omega)
                                        have zp : decide ((0 : Int) < ((bts e.to).size : Int)) = true := decide_eq_true (by omega)
                                        have zp' : decide (0 < (bts e.to).size) = true := decide_eq_true (by omega)
                                        have hl0 : (e.to.length == 0) = false := beq_eq_false_iff_ne.2 (by omega)
                                        have hlp : decide (0 < e.to.length) = true := decide_eq_true (by omega)
                                        have HE := Lib.hid (show whyE l = 1 by rw [HLAST.out, if_pos (HO.out (by unfold okE; rw [dm1, dm2, dt1, dt2, ds1, dk1, dk2, r1, r3, q3, hlp]; simp))])
                                        try clear hzt
                                        go_wp2
                                        go_ret
                                        exact ⟨by rw [HE.out]; rfl, grown_alloc G0.out _⟩
                                    · by_cases hs0 : 0 < e.size
                                      · have ds : decide (0 < e.size) = true := decide_eq_true hs0
                                        by_cases h3 : e.kind = 3
                                        · skip
                                          have q1 : (e.kind == 1) = false := beq_eq_false_iff_ne.2 (by omega)
                                          have q3 : (e.kind == 3) = true := beq_iff_eq.2 (by omega)
                                          have r1 : (e.kind != 1) = true := by rw [bne, q1]; rfl
                                          have r3 : (e.kind != 3) = false := by rw [bne, q3]; rfl
                                          have HE := Lib.hid (show whyE l = 1 by rw [HLAST.out, if_pos (HO.out (by unfold okE; rw [dm1, dm2, dt1, dt2, ds1, dk1, dk2, r1, r3, q3, ds]; simp))])
                                          try clear hzt
                                          go_wp2
                                          go_ret
                                          exact ⟨by rw [HE.out]; rfl, grown_alloc G0.out _⟩
                                        · skip
                                          have q1 : (e.kind == 1) = false := beq_eq_false_iff_ne.2 (by omega)
                                          have q3 : (e.kind == 3) = false := beq_eq_false_iff_ne.2 (by omega)
                                          have r1 : (e.kind != 1) = true := by rw [bne, q1]; rfl
                                          have r3 : (e.kind != 3) = true := by rw [bne, q3]; rfl
                                          have HE := Lib.hid (show whyE l = 1 by rw [HLAST.out, if_pos (HO.out (by unfold okE; rw [dm1, dm2, dt1, dt2, ds1, dk1, dk2, r1, r3, q3, ds]; simp))])
                                          try clear hzt
                                          go_wp2
                                          go_ret
                                          exact ⟨by rw [HE.out]; rfl, grown_alloc G0.out _⟩
                                      · have ds : decide (0 < e.size) = false := decide_eq_false hs0
                                        have HSZ := Lib.hid ds
                                        by_cases h3 : e.kind = 3
                                        · skip
                                          have q1 : (e.kind == 1) = false := beq_eq_false_iff_ne.2 (by omega)
                                          have q3 : (e.kind == 3) = true := beq_iff_eq.2 (by omega)
                                          have r1 : (e.kind != 1) = true := by rw [bne, q1]; rfl
                                          have r3 : (e.kind != 3) = false := by rw [bne, q3]; rfl
                                          by_cases y0 : e.to.length = 0
                                          · skip
                                            have z0 : (((bts e.to).size : Int) == 0) = true := beq_iff_eq.2 (by omega)
                                            have z0' : ((bts e.to).size == 0) = true := beq_iff_eq.2 (by omega)
                                            have zp : decide ((0 : Int) < ((bts e.to).size : Int)) = false := decide_eq_false (by omega)
                                            have zp' : decide (0 < (bts e.to).size) = false := decide_eq_false (by omega)
                                            have hl0 : (e.to.length == 0) = true := beq_iff_eq.2 (by omega)
                                            have hlp : decide (0 < e.to.length) = false := decide_eq_false (by omega)
                                            have HE := Lib.hid (show whyE l = 1 by rw [HLAST.out, if_pos (HO.out (by unfold okE; rw [dm1, dm2, dt1, dt2, ds1, dk1, dk2, r1, r3, q3, hl0]; simp))])
                                            try clear hzt
                                            go_wp2
                                            go_ret
                                            exact ⟨by rw [HE.out]; rfl, grown_alloc G0.out _⟩
                                          · by_cases y2 : 256 < e.to.length
                                            · have x2 : decide ((256 : Int) < ((bts e.to).size : Int)) = true := decide_eq_true (by omega)
                                              have w2 : decide (256 < e.to.length) = true := decide_eq_true y2
                                              have z0 : (((bts e.to).size : Int) == 0) = false := beq_eq_false_iff_ne.2 (by omega)
                                              have z0' : ((bts e.to).size == 0) = false := beq_eq_false_iff_ne.2 (by omega)
                                              have zp : decide ((0 : Int) < ((bts e.to).size : Int)) = true := decide_eq_true (by omega)
                                              have zp' : decide (0 < (bts e.to).size) = true := decide_eq_true (by omega)
                                              have hl0 : (e.to.length == 0) = false := beq_eq_false_iff_ne.2 (by omega)
                                              have hlp : decide (0 < e.to.length) = true := decide_eq_true (by omega)
                                              have HE := Lib.hid (show whyE l = 1 by rw [HLAST.out, if_pos (HO.out (by unfold okE; rw [dm1, dm2, dt1, dt2, ds1, dk1, dk2, r1, r3, q3, w2]; simp))])
                                              try clear hzt
                                              go_wp2
                                              go_ret
                                              exact ⟨by rw [HE.out]; rfl, grown_alloc G0.out _⟩
                                            · have x2 : decide ((256 : Int) < ((bts e.to).size : Int)) = false := decide_eq_false (by omega)
                                              have w2 : decide (256 < e.to.length) = false := decide_eq_false y2
                                              have z0 : (((bts e.to).size : Int) == 0) = false := beq_eq_false_iff_ne.2 (by omega)
                                              have z0' : ((bts e.to).size == 0) = false := beq_eq_false_iff_ne.2 (by omega)
                                              have zp : decide ((0 : Int) < ((bts e.to).size : Int)) = true := decide_eq_true (by omega)
                                              have zp' : decide (0 < (bts e.to).size) = true := decide_eq_true (by omega)
                                              have hl0 : (e.to.length == 0) = false := beq_eq_false_iff_ne.2 (by omega)
                                              have hlp : decide (0 < e.to.length) = true := decide_eq_true (by omega)
                                              have HE := Lib.hid (show okE e = true by unfold okE; rw [dm1, dm2, dt1, dt2, ds1, dk1, dk2, r1, r3, q3, w2, hl0, HSZ.out]; simp)
                                              try clear hzt
                                              go_wp2
                                              go_roundw
                                              case rel => exact ⟨k + 1, by go_num, h, by rw [HN.out]; exact HE.out, grown_alloc G0.out _⟩
                                              case measure =>
                                                simp [intOf]
                                                omega
                                        · skip
                                          have q1 : (e.kind == 1) = false := beq_eq_false_iff_ne.2 (by omega)
                                          have q3 : (e.kind == 3) = false := beq_eq_false_iff_ne.2 (by omega)
                                          have r1 : (e.kind != 1) = true := by rw [bne, q1]; rfl
                                          have r3 : (e.kind != 3) = true := by rw [bne, q3]; rfl
                                          by_cases y0 : e.to.length = 0
                                          · skip
                                            have z0 : (((bts e.to).size : Int) == 0) = true := beq_iff_eq.2 (by omega)
                                            have z0' : ((bts e.to).size == 0) = true := beq_iff_eq.2 (by omega)
                                            have zp : decide ((0 : Int) < ((bts e.to).size : Int)) = false := decide_eq_false (by omega)
                                            have zp' : decide (0 < (bts e.to).size) = false := decide_eq_false (by omega)
                                            have hl0 : (e.to.length == 0) = true := beq_iff_eq.2 (by omega)
                                            have hlp : decide (0 < e.to.length) = false := decide_eq_false (by omega)
                                            have HE := Lib.hid (show okE e = true by unfold okE; rw [dm1, dm2, dt1, dt2, ds1, dk1, dk2, r1, r3, q3, hlp, HSZ.out]; simp)
                                            try clear hzt
                                            go_wp2
                                            go_roundw
                                            case rel => exact ⟨k + 1, by go_num, h, by rw [HN.out]; exact HE.out, grown_alloc G0.out _⟩
                                            case measure =>
                                              simp [intOf]
                                              omega
                                          · skip
                                            have z0 : (((bts e.to).size : Int) == 0) = false := beq_eq_false_iff_ne.2 (by omega)
                                            have z0' : ((bts e.to).size == 0) = false := beq_eq_false_iff_ne.2 (by omega)
                                            have zp : decide ((0 : Int) < ((bts e.to).size : Int)) = true := decide_eq_true (by omega)
                                            have zp' : decide (0 < (bts e.to).size) = true := decide_eq_true (by omega)
                                            have hl0 : (e.to.length == 0) = false := beq_eq_false_iff_ne.2 (by omega)
                                            have hlp : decide (0 < e.to.length) = true := decide_eq_true (by omega)
                                            have HE := Lib.hid (show whyE l = 1 by rw [HLAST.out, if_pos (HO.out (by unfold okE; rw [dm1, dm2, dt1, dt2, ds1, dk1, dk2, r1, r3, q3, hlp]; simp))])
                                            try clear hzt
                                            go_wp2
                                            go_ret
                                            exact ⟨by rw [HE.out]; rfl, grown_alloc G0.out _⟩
                    · have d0 : decide ((k : Int) < (l.length : Int)) = false := decide_eq_false (by omega)
                      have HE := Lib.hid (show whyE l = 0 by rw [HLAST.out, if_neg (by rw [allE_end l okE k (by omega) HA.out]; decide)])
                      go_wp2
                      go_ret
                      exact ⟨by rw [HE.out]; rfl, G0.out⟩
end Go.Proofs.YtiakkfcjdmecdaaDoor
