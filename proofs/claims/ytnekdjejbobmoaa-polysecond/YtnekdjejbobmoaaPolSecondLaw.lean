/-
  The law PolySecond, walked.
-/
import Derived.Test.YtnekdjejbobmoaaPolOps
namespace Go.Proofs.Ytnekdjejbobmoaa
open Go.RowKit

def barK (key : List UInt8) (j : Nat) : List UInt8 := key.take 16 ++ (List.replicate j 0 ++ key.drop (16 + j))
theorem barK_len (key : List UInt8) (hk : key.length = 32) (j : Nat) (h : j ≤ 16) : (barK key j).length = 32 := by simp [barK, hk]; omega
theorem barK_set (key : List UInt8) (hk : key.length = 32) (j : Nat) (h : j < 16) : (barK key j).set (16 + j) 0 = barK key (j + 1) := by
  have hl : (key.take 16).length = 16 := by rw [List.length_take, hk]; rfl
  unfold barK
  rw [List.set_append_right _ _ (by omega), hl, show 16 + j - 16 = j by omega, List.set_append_right _ _ (by simp), List.length_replicate, Nat.sub_self, List.drop_eq_getElem_cons (by omega), List.set_cons_zero, List.replicate_succ', show 16 + j + 1 = 16 + (j + 1) by omega]
  simp
theorem barK_none (key : List UInt8) : barK key 0 = key := by simp [barK]
theorem tag_bare (key b : List UInt8) (hk : key.length = 32) : tagB (barK key 16) b = leB 16 (accOf (le (clampB key)) b) := by
  have hl : (key.take 16).length = 16 := by rw [List.length_take, hk]; rfl
  have h1 : (barK key 16).take 16 = key.take 16 := by
    unfold barK
    rw [List.take_append_of_le_length (by omega), List.take_of_length_le (by omega)]
  have h2 : (barK key 16).drop 16 = List.replicate 16 0 := by
    unfold barK
    rw [List.drop_append, hl, List.drop_of_length_le (l := key.take 16) (by omega), List.drop_of_length_le (l := key) (by omega)]
    rfl
  have h3 : clampB (barK key 16) = clampB key := by rw [← clampB_take, h1, clampB_take]
  have h4 : tagB (barK key 16) b = leB 16 (accOf (le (clampB (barK key 16))) b + le ((barK key 16).drop 16)) := rfl
  rw [h4, h2, h3, le_zeros, Nat.add_zero]

set_option maxHeartbeats 8000000 in
theorem polySecond_walk (key : List UInt8) (hk : key.length = 32) (A : Option Addr) (m c : Nat) (b : List UInt8) (w : World) (hr : Rd w (.slice A m c) (bytesV b)) :
    Calls Try.prog 6 #[.agg (bytesV key).toArray, .slice A m c] w (Awake w) := by
  have hbl : b.length = m := by have := hr.len.1; rwa [bytesV_len] at this
  have HBL := Lib.hid hbl
  have HK := Lib.hid hk
  have HKL := Lib.hid (show (bytesV key).length = 32 by rw [bytesV_len, hk])
  have HKO := Lib.hid (fun x hx => bytesV_one key x hx)
  generalize hG : w.heap.size = G
  have HG := Lib.hid hG
  obtain ⟨W0, hW0⟩ : ∃ W, w.alloc (.cells (bytesV key).toArray 22) = W := ⟨_, rfl⟩
  have R0 := Lib.hid (show Row W0 G 22 (bytesV key) by rw [← hW0]; exact Row.newAt w _ (bytesV key) hG)
  have HGR := Lib.hid (show w.grownBy W0 none by rw [← hW0]; exact grown_alloc (grown_refl _ _) _)
  have HRD := Lib.hid hr
  have hcm := hr.len.2.2
  unfold maxLen at hcm
  have hmc := hr.len.2.1
  clear hr hbl hk
  by_cases hm : 100 < m
  · have hdec : decide (100 < (m : Int)) = true := by simp; omega
    clear hm
    go_enter Try.func6, Try.ntmps6
    go_wp2_with (go_at_call 10; refine (awake_any _).mono ?_; rintro e w5 ⟨rfl, hg5⟩)
    go_ret
    exact ⟨rfl, HGR.out.trans hg5⟩
  · have hdec : decide (100 < (m : Int)) = false := by simp; omega
    have hm5 : m ≤ 100 := by omega
    clear hm
    have hlt1 := R0.out.lt
    go_enter Try.func6, Try.ntmps6
    go_wp2_with (first
      | refine wpList_load_row _ rfl _ 22 rfl G 22 (bytesV key) _ rfl R0.out Try.underlying22 rfl (by rw [HKL.out]; kernel_rfl) ?_
      | (refine wpList_store_row _ rfl rfl _ _ 22 rfl W0.heap.size 22 (noughts8 32) (bytesV key) rfl rfl (Row.new W0 22 (noughts8 32)) (by rw [HKL.out]; rfl) HKO.out (by rw [HKL.out]; kernel_rfl) ?_; intro w1 hr1 hg1))
    have hs1 : W0.heap.size + 1 ≤ w1.heap.size := by have := hg1.size; simpa using this
    have hsw := HGR.out.size
    have N0 := Lib.hid ((R0.out.alloc (.cells (noughts8 32).toArray 22)).grown hg1 (by simp; omega))
    have N1 := Lib.hid hr1
    have HGN := Lib.hid (grown_own (grown_alloc HGR.out (.cells (noughts8 32).toArray 22)) hg1 hsw)
    have HLT := Lib.hid (show G < W0.heap.size ∧ w.heap.size ≤ W0.heap.size by omega)
    clear hG hW0 hr1 hg1 hs1 hsw hlt1 R0 HGR
    generalize W0.heap.size = gB at *
    go_loopw [6] (fun i W => ∃ j : Nat, j ≤ 16 ∧ i = .int .i64 ((16 + j : Nat) : Int) ∧ Row W G 22 (bytesV key) ∧ Row W gB 22 (bytesV (barK key j)) ∧ w.grownBy W none) (fun i _ => 32 - (intOf i).toNat)
    case atStart => exact ⟨0, Nat.zero_le _, rfl, N0.out, by rw [barK_none]; exact N1.out, HGN.out⟩
    case round =>
      clear N0 N1 HGN
      obtain ⟨j, hj, rfl, r0, r1, hgr⟩ := hrel
      have N0 := Lib.hid r0
      have N1 := Lib.hid r1
      have HGN := Lib.hid hgr
      clear r0 hgr
      by_cases hlt : j < 16
      · have hc1 := r1.cell (bytesV_at (barK key j) (16 + j) (by rw [barK_len key HK.out j (by omega)]; omega))
        have hf1 := r1.frozen (16 + j)
        have HS := Lib.hid (barK_set key HK.out j hlt)
        have hl := HLT.out
        have hd32 : decide (((16 + j : Nat) : Int) < 32) = true := by simp; omega
        clear r1
        generalize hi : 16 + j = i at *
        go_wp2
        go_roundw
        case rel =>
          refine ⟨j + 1, by omega, congrArg (Value.int .i64) (by omega), N0.out.other (by omega) _, ?_, grown_own HGN.out (grown_set wr gB i _) (by omega)⟩
          rw [← HS.out, ← bytesV_set]
          exact N1.out.set i _
        case measure => simp [intOf]; omega
      · have hj16 : j = 16 := by omega
        subst hj16
        have hz32 : (barK key 16).length = 32 := barK_len key HK.out 16 (by decide)
        have HZL := Lib.hid (show (bytesV (barK key 16)).length = 32 by rw [bytesV_len, hz32])
        have H1 := Lib.hid (fun W (hg : w.grownBy W none) => tag_any (barK key 16) hz32 (.slice A m c) b W (HRD.out.grown0 hg) (by rw [HBL.out]; omega))
        rw [tag_bare key b HK.out] at H1
        have H2 := Lib.hid (fun W (hg : w.grownBy W none) => tag_any key HK.out (.slice A m c) b W (HRD.out.grown0 hg) (by rw [HBL.out]; omega))
        rw [show tagB key b = leB 16 (accOf (le (clampB key)) b + le (key.drop 16)) from rfl] at H2
        have HS := Lib.hid (fun k (h : k < 16) => (show (key.getD (16 + k) 0).toNat = le (key.drop 16) / 256 ^ k % 256 by
          rw [← byte_at (key.drop 16) k (by rw [List.length_drop, HK.out]; omega)]
          simp [List.getD_eq_getElem?_getD]))
        generalize accOf (le (clampB key)) b = T at *
        generalize le (key.drop 16) = S at *
        generalize barK key 16 = bare at *
        clear r1 hj hlt hz32
        go_wp2
        refine wp_region_walk3 8 [] dis_nil (by kernel_rfl) (by kernel_rfl) (by kernel_rfl) ?_
        simp only [List.take_succ_cons, List.take_zero, List.drop_succ_cons, List.drop_zero]
        refine Walk.val (G := Is (.agg (bytesV bare).toArray)) (stays_is _ _) rfl rfl (fun a w hm hd => ⟨wanted_plain rfl, _, ex_load_row rfl gB 22 _ _ (by rw [hm.outer 5 (by kernel_rfl)]; rfl) (N1.out.grown0 hm.grow.none2) Try.underlying22 rfl (by rw [HZL.out]; kernel_rfl), rfl⟩) ?_
        refine Walk.val (G := Is (.slice A m c)) (stays_is _ _) rfl rfl (fun a w hm hd => ⟨wanted_plain rfl, _, ex_move rfl, (by rw [hm.outer 1 (by kernel_rfl)]; rfl)⟩) ?_
        refine Walk.call (G := Is (.agg (bytesV (leB 16 T)).toArray)) (stays_is _ _) rfl 11 rfl (fun a w hm ha hd => ⟨wanted_plain rfl, _, ex_call2 Try.func11 (by kernel_rfl) (by kernel_rfl) rfl, by rw [show a.eval (.tmp 23) = _ from hd.at_ 0 rfl rfl rfl rfl, show a.eval (.tmp 24) = _ from hd.at_ 1 rfl rfl rfl rfl]; exact Val.made (H1.out w (HGN.out.trans hm.grow.none2))⟩) ?_
        refine Walk.val (G := Is (.agg (bytesV key).toArray)) (stays_is _ _) rfl rfl (fun a w hm hd => ⟨wanted_plain rfl, _, ex_load_row rfl G 22 _ _ (by rw [hm.outer 2 (by kernel_rfl)]; rfl) (N0.out.grown0 hm.grow.none2) Try.underlying22 rfl (by rw [HKL.out]; kernel_rfl), rfl⟩) ?_
        refine Walk.val (G := Is (.slice A m c)) (stays_is _ _) rfl rfl (fun a w hm hd => ⟨wanted_plain rfl, _, ex_move rfl, (by rw [hm.outer 1 (by kernel_rfl)]; rfl)⟩) ?_
        refine Walk.call (G := Is (.agg (bytesV (leB 16 (T + S))).toArray)) (stays_is _ _) rfl 11 rfl (fun a w hm ha hd => ⟨wanted_plain rfl, _, ex_call2 Try.func11 (by kernel_rfl) (by kernel_rfl) rfl, by rw [show a.eval (.tmp 26) = _ from hd.at_ 3 rfl rfl rfl rfl, show a.eval (.tmp 27) = _ from hd.at_ 4 rfl rfl rfl rfl]; exact Val.made (H2.out w (HGN.out.trans hm.grow.none2))⟩) ?_
        refine Walk.make (G := fun v W' => ∃ g, v = .pointer (some ⟨g, 0, none⟩) ∧ Row W' g 25 (noughts8 16) ∧ wr.heap.size ≤ g) (fun _ _ _ _ _ ⟨g, h1, h2, h3⟩ hg => ⟨g, h1, h2.grown0 hg, h3⟩) rfl rfl (fun a w hm _ hd => ⟨wanted_plain rfl, _, _, ex_alloc16 rfl, grown_alloc (grown_refl _ _) _, _, rfl, Row.new w _ _, hm.grow.none2.size⟩) ?_
        refine Walk.make (G := fun v W' => ∃ g, v = .pointer (some ⟨g, 0, none⟩) ∧ Row W' g 25 (noughts8 16) ∧ wr.heap.size ≤ g) (fun _ _ _ _ _ ⟨g, h1, h2, h3⟩ hg => ⟨g, h1, h2.grown0 hg, h3⟩) rfl rfl (fun a w hm _ hd => ⟨wanted_plain rfl, _, _, ex_alloc16 rfl, grown_alloc (grown_refl _ _) _, _, rfl, Row.new w _ _, hm.grow.none2.size⟩) ?_
        intro a w7 hm hall
        have f25 : a.eval (.tmp 25) = .agg (bytesV (leB 16 T)).toArray := hall 2 _ _ rfl rfl
        have f28 : a.eval (.tmp 28) = .agg (bytesV (leB 16 (T + S))).toArray := hall 5 _ _ rfl rfl
        obtain ⟨g7, f7, r7, hg7⟩ := hall 6 _ _ rfl rfl
        obtain ⟨g8, f8, r8, hg8⟩ := hall 7 _ _ rfl rfl
        have f7' : a.eval (.tmp 7) = .pointer (some ⟨g7, 0, none⟩) := f7
        have f8' : a.eval (.tmp 8) = .pointer (some ⟨g8, 0, none⟩) := f8
        have hne : g7 ≠ g8 := by
          intro e
          refine hm.apart 6 7 _ _ 7 8 (by decide) (by decide) (by decide) rfl rfl rfl rfl rfl rfl ?_ ?_ ?_
          · rw [f7']; exact fun h => by cases h
          · rw [f8']; exact fun h => by cases h
          · rw [f7', f8', e]
        have hfr := hm.frame
        simp only [List.take_succ_cons, List.take_zero, List.filterMap_cons, List.filterMap_nil, List.foldl_cons, List.foldl_nil, f7', f8'] at hfr
        generalize he23 : a.eval (.tmp 23) = e23 at hfr f25 f28
        generalize he24 : a.eval (.tmp 24) = e24 at hfr f25 f28
        generalize he25 : a.eval (.tmp 25) = e25 at hfr f25 f28
        generalize he26 : a.eval (.tmp 26) = e26 at hfr f25 f28
        generalize he27 : a.eval (.tmp 27) = e27 at hfr f25 f28
        generalize he28 : a.eval (.tmp 28) = e28 at hfr f25 f28
        have HFR := Lib.hid hfr
        have h1L : (bytesV (leB 16 T)).length = 16 := by rw [bytesV_len, leB_len]
        have h2L : (bytesV (leB 16 (T + S))).length = 16 := by rw [bytesV_len, leB_len]
        have hl := HLT.out
        have hb1 := N1.out.lt
        have hsw := HGN.out.size
        refine wpList_store_row _ rfl rfl _ _ 25 rfl g7 25 (noughts8 16) (bytesV (leB 16 T)) f7' (he25.trans f25) r7 (by rw [h1L]; rfl) (bytesV_one _) (by rw [h1L]; kernel_rfl) ?_
        intro w8 hr8 hg8'
        refine wpList_store_row _ rfl rfl _ _ 25 rfl g8 25 (noughts8 16) (bytesV (leB 16 (T + S))) f8' (he28.trans f28) (r8.grown hg8' (by simpa using Ne.symm hne)) (by rw [h2L]; rfl) (bytesV_one _) (by rw [h2L]; kernel_rfl) ?_
        intro w9 hr9 hg9'
        have hgn : wr.grownBy w7 none := hm.grow.none2
        have K0 := Lib.hid (((N0.out.grown0 hgn).grown hg8' (by simp; omega)).grown hg9' (by simp; omega))
        have K1 := Lib.hid (hr8.grown hg9' (by simpa using hne))
        have K2 := Lib.hid hr9
        have HGK := Lib.hid (grown_own (grown_own (HGN.out.trans hgn) hg8' (by omega)) hg9' (by omega))
        clear hr8 hg8' hr9 hg9' hgn h1L h2L hfr hall hm f25 f28 f7 f8 f7' f8' hne r7 r8 hl hb1 hsw N0 N1 HGN H1 H2 hg7 hg8
        clear he23
        clear he24
        clear he25
        clear he26
        clear he27
        clear he28
        have hfr := HFR.out
        clear HFR
        unfold wpList
        rw [hfr]
        clear hfr
        go_simp
        go_wp2
        go_loopw [9, 29] (fun q i W => ∃ k x : Nat, k ≤ 16 ∧ i = .int .i64 k ∧ q = .int .i64 (x : Int) ∧ x = car T S k ∧ Row W G 22 (bytesV key) ∧ Row W g7 25 (bytesV (leB 16 T)) ∧ Row W g8 25 (bytesV (leB 16 (T + S))) ∧ w.grownBy W none) (fun _ i _ => 16 - (intOf i).toNat)
        case atStart => exact ⟨0, 0, Nat.zero_le _, rfl, rfl, (car_zero _ _).symm, K0.out, K1.out, K2.out, HGK.out⟩
        case round =>
          clear K0 K1 K2 HGK
          obtain ⟨k, x, hk, rfl, rfl, hx, r0, r1, r2, hgr⟩ := hrel
          have K0 := Lib.hid r0
          have K1 := Lib.hid r1
          have K2 := Lib.hid r2
          have HGK := Lib.hid hgr
          clear hgr
          by_cases hlt : k < 16
          · have hst := car_step T S k
            have hx1 := car_le T S k
            rw [← hx] at hst hx1
            have c0 := r0.cell (bytesV_at key (16 + k) (by rw [HK.out]; omega))
            rw [HS.out k hlt] at c0
            have c1 := r1.cell (bytesV_at (leB 16 T) k (by rw [leB_len]; exact hlt))
            rw [leB_at 16 T k hlt] at c1
            have c2 := r2.cell (bytesV_at (leB 16 (T + S)) k (by rw [leB_len]; exact hlt))
            rw [leB_at 16 (T + S) k hlt, ← hst.1] at c2
            have HNX := Lib.hid hst.2
            have hy : T / 256 ^ k % 256 < 256 := Nat.mod_lt _ (by decide)
            have hz : S / 256 ^ k % 256 < 256 := Nat.mod_lt _ (by decide)
            generalize T / 256 ^ k % 256 = y at *
            generalize S / 256 ^ k % 256 = z at *
            generalize hu : (x + y + z) % 256 = u at *
            have hu2 : (y : Int) + (z : Int) + (x : Int) = ((x + y + z : Nat) : Int) := by omega
            have hu3 : ((x + y + z : Nat) : Int) % 256 = (u : Int) := by omega
            have HU := Lib.hid hu
            have hu8 : u < 256 := by omega
            clear hst r0 r1 r2 hx
            go_wp2
            go_quiet (fail)
            go_wp2
            go_roundw
            case rel => exact ⟨k + 1, (x + y + z) / 256, by omega, by go_num, congrArg (Value.int .i64) (by omega), HNX.out, K0.out.drewN _, K1.out.drewN _, K2.out.drewN _, grown_drewN HGK.out _⟩
            case measure => simp [intOf]; omega
          · clear r0 r1 r2 hx
            go_wp2_with (go_at_call 10; refine (awake_any _).mono ?_; rintro e w5 ⟨rfl, hg5⟩)
            go_ret
            exact ⟨rfl, HGK.out.trans hg5⟩
end Go.Proofs.Ytnekdjejbobmoaa
