/-
  The law PolyClears, walked.
-/
import Derived.Test.YtnekdjejbobmoaaPolOps
namespace Go.Proofs.Ytnekdjejbobmoaa
open Go.RowKit

def clrKey (key : List UInt8) : List UInt8 := clampB key ++ key.drop 16
theorem clrKey_len (key : List UInt8) (hk : key.length = 32) : (clrKey key).length = 32 := by simp [clrKey, clampB_len, hk]
theorem tag_clr (key b : List UInt8) : tagB (clrKey key) b = tagB key b := by
  have h1 : (clrKey key).take 16 = clampB key := by
    unfold clrKey
    rw [List.take_append_of_le_length (by rw [clampB_len]; decide), List.take_of_length_le (by rw [clampB_len]; decide)]
  have h2 : (clrKey key).drop 16 = key.drop 16 := by
    unfold clrKey
    rw [List.drop_append, clampB_len, List.drop_of_length_le (l := clampB key) (by rw [clampB_len]; decide)]
    rfl
  have h3 : clampB (clrKey key) = clampB key := by rw [← clampB_take, h1, clampB_clampB]
  unfold tagB
  rw [h2, h3]
theorem times_clr (a key : List UInt8) : timesB a (clampB key) = timesB a (key.take 16) := by
  unfold timesB
  rw [clampB_clampB, clampB_take]
theorem arr_at (g : Nat) (w : World) : (Instr.arrayAt 25 (.slice (some ⟨g, 0, none⟩) 16 32)).run Try.prog w = .ok (.pointer (some ⟨g, 0, none⟩)) w := by
  simp [Instr.arrayAt, run_underlying Try.underlying25]
theorem ex_toptr {o : Oper} {a : Act} {w : World} {x : Operand} {g : Nat} (h : o.op = .sliceToArrayPointer 25 x) (hx : a.eval x = .slice (some ⟨g, 0, none⟩) 16 32) : (execOp a.eval o).run Try.prog w = .ok (.value (.pointer (some ⟨g, 0, none⟩))) w := by
  simp only [execOp, h, hx]
  simp [arr_at]

set_option maxHeartbeats 8000000 in
theorem polyClears_walk (key : List UInt8) (hk : key.length = 32) (A : Option Addr) (m c : Nat) (b : List UInt8) (s : List UInt8) (hs : s.length = 16) (w : World) (hr : Rd w (.slice A m c) (bytesV b)) :
    Calls Try.prog 9 #[.agg (bytesV key).toArray, .slice A m c, .agg (bytesV s).toArray] w (Awake w) := by
  have hbl : b.length = m := by have := hr.len.1; rwa [bytesV_len] at this
  have HBL := Lib.hid hbl
  have HK := Lib.hid hk
  have HKL := Lib.hid (show (bytesV key).length = 32 by rw [bytesV_len, hk])
  have HKO := Lib.hid (fun x hx => bytesV_one key x hx)
  have HSL := Lib.hid (show (bytesV s).length = 16 by rw [bytesV_len, hs])
  generalize hG : w.heap.size = G
  have HG := Lib.hid hG
  obtain ⟨W0, hW0⟩ : ∃ W, (w.alloc (.cells (bytesV key).toArray 22)).alloc (.cells (bytesV s).toArray 25) = W := ⟨_, rfl⟩
  have R0 := Lib.hid (show Row W0 G 22 (bytesV key) by rw [← hW0]; exact (Row.newAt w _ (bytesV key) hG).alloc _)
  have R1 := Lib.hid (show Row W0 (G + 1) 25 (bytesV s) by rw [← hW0]; exact Row.newAt _ _ (bytesV s) (by simp [hG]))
  have HGR := Lib.hid (show w.grownBy W0 none by rw [← hW0]; exact grown_alloc (grown_alloc (grown_refl _ _) _) _)
  have HRD := Lib.hid hr
  have hcm := hr.len.2.2
  unfold maxLen at hcm
  have hmc := hr.len.2.1
  clear hr hbl
  by_cases hm : 100 < m
  · have hdec : decide (100 < (m : Int)) = true := by simp; omega
    clear hm
    go_enter Try.func9, Try.ntmps9
    go_wp2_with (go_at_call 10; refine (awake_any _).mono ?_; rintro e w5 ⟨rfl, hg5⟩)
    go_ret
    exact ⟨rfl, HGR.out.trans hg5⟩
  · have hdec : decide (100 < (m : Int)) = false := by simp; omega
    have hm5 : m ≤ 100 := by omega
    clear hm
    have htl : (key.take 16).length = 16 := by rw [List.length_take, hk]; rfl
    have HTL := Lib.hid (show (bytesV (key.take 16)).length = 16 by rw [bytesV_len, htl])
    have HPART := Lib.hid (show ∀ (j : Nat) u, (bytesV (key.take 16))[j]? = some u → (bytesV key)[0 + j]? = some u from fun j u hu => by
      rw [show bytesV (key.take 16) = (bytesV key).take 16 by simp [bytesV, List.map_take], List.getElem?_take] at hu
      rw [Nat.zero_add]
      split at hu
      · exact hu
      · cases hu)
    have H0 := Lib.hid (fun w => clamp_any (key.take 16) htl w)
    rw [clampB_take] at H0
    have H1 := Lib.hid (fun W (hg : w.grownBy W none) => tag_any (clrKey key) (clrKey_len key hk) (.slice A m c) b W (HRD.out.grown0 hg) (by rw [HBL.out]; omega))
    rw [tag_clr] at H1
    have H2 := Lib.hid (fun W (hg : w.grownBy W none) => tag_any key hk (.slice A m c) b W (HRD.out.grown0 hg) (by rw [HBL.out]; omega))
    have H3 := Lib.hid (fun w => Val.made (times_any s (clampB key) hs (clampB_len key) w))
    rw [times_clr] at H3
    have H4 := Lib.hid (fun w => Val.made (times_any s (key.take 16) hs htl w))
    have HRV := Lib.hid (show (bytesV (clampB key)).length = 16 by rw [bytesV_len, clampB_len])
    have HRO := Lib.hid (fun x hx => bytesV_one (clampB key) x hx)
    have HCL := Lib.hid (show (bytesV (clrKey key)).length = 32 by rw [bytesV_len, clrKey_len key hk])
    have HTT := Lib.hid (tagB_len key b)
    have HTM := Lib.hid (timesB_len s (key.take 16))
    have hlt1 := R1.out.lt
    have harr := arr_at G
    clear hk hs htl
    go_enter Try.func9, Try.ntmps9
    go_wp2_with (refine wpList_load_part _ rfl _ 25 rfl G 0 22 (bytesV key) (bytesV (key.take 16)) _ rfl R0.out HPART.out Try.underlying25 rfl (by rw [HTL.out]; kernel_rfl) ?_)
    refine (H0.out _).mono ?_
    rintro e w1 ⟨rfl, hg1⟩
    have Q0 := Lib.hid (R0.out.grown0 hg1)
    have Q1 := Lib.hid (R1.out.grown0 hg1)
    have HGQ := Lib.hid (HGR.out.trans hg1)
    have hs1 := hg1.size
    clear hG hW0 hg1 R0 R1 HGR H0
    go_wp2_with (first
      | (refine wpList_store_row _ rfl rfl _ _ 25 rfl w1.heap.size 25 (noughts8 16) (bytesV (clampB key)) rfl rfl (Row.new w1 25 (noughts8 16)) (by rw [HRV.out]; rfl) HRO.out (by rw [HRV.out]; kernel_rfl) ?_; intro w2 hr2 hg2; have P0 := Lib.hid ((Q0.out.alloc (.cells (noughts8 16).toArray 25)).grown hg2 (by simp; omega)))
      | refine wpList_load_row _ rfl _ 22 rfl G 22 (bytesV key) _ rfl P0.out Try.underlying22 rfl (by rw [HKL.out]; kernel_rfl) ?_
      | (refine wpList_store_row _ rfl rfl _ _ 22 rfl w2.heap.size 22 (noughts8 32) (bytesV key) rfl rfl (Row.new w2 22 (noughts8 32)) (by rw [HKL.out]; rfl) HKO.out (by rw [HKL.out]; kernel_rfl) ?_; intro w3 hr3 hg3))
    have hs2 : w1.heap.size + 1 ≤ w2.heap.size := by have := hg2.size; simpa using this
    have hs3 : w2.heap.size + 1 ≤ w3.heap.size := by have := hg3.size; simpa using this
    have hsw := HGQ.out.size
    have N0 := Lib.hid ((P0.out.alloc (.cells (noughts8 32).toArray 22)).grown hg3 (by simp; omega))
    have N1 := Lib.hid ((((Q1.out.alloc (.cells (noughts8 16).toArray 25)).grown hg2 (by simp; omega)).alloc (.cells (noughts8 32).toArray 22)).grown hg3 (by simp; omega))
    have N2 := Lib.hid ((hr2.alloc (.cells (noughts8 32).toArray 22)).grown hg3 (by simp; omega))
    have N3 := Lib.hid hr3
    have HGN := Lib.hid (grown_own (grown_alloc (grown_own (grown_alloc HGQ.out (.cells (noughts8 16).toArray 25)) hg2 hsw) (.cells (noughts8 32).toArray 22)) hg3 (by omega))
    have HLT := Lib.hid (show G + 1 < w1.heap.size ∧ w1.heap.size < w2.heap.size ∧ w.heap.size ≤ w1.heap.size by omega)
    clear hs1 hs2 hs3 hsw hr2 hg2 hr3 hg3 hlt1 Q0 Q1 HGQ P0
    generalize w1.heap.size = gR at *
    generalize w2.heap.size = gC at *
    obtain ⟨w4, hrun, hr4, hg4⟩ := run_copy_gen (P := Try.prog) w3.drew 23 3 5 Try.underlying23 (by kernel_rfl) gC 0 32 32 _ (bytesV (clampB key)) (N2.out.drew.rds 16 16 HRV.out (by decide) (by decide)) HRO.out (bytesV key) 22 N3.out.drew (by rw [HKL.out]; decide)
    have he : splice (bytesV key) 0 ((bytesV (clampB key)).take 32) = bytesV (clrKey key) := by
      rw [List.take_of_length_le (by rw [HRV.out]; decide), splice_zero, HRV.out]
      unfold clrKey
      rw [bytesV_app]
      simp [bytesV, List.map_drop]
    rw [he] at hr4
    rw [HRV.out] at hrun
    have hrun' : (Builtin.copy_ #[23, 23] 3 #[.slice (some ⟨gC, 0, none⟩) 32 32, .slice (some ⟨gR, 0, none⟩) 16 16]).run Try.prog w3.drew = .ok (.int .i64 16) w4 := hrun
    have hl := HLT.out
    have K0 := Lib.hid (N0.out.drew.grown hg4 (by simp; omega))
    have K1 := Lib.hid (N1.out.drew.grown hg4 (by simp; omega))
    have K2 := Lib.hid (N2.out.drew.grown hg4 (by simp; omega))
    have K3 := Lib.hid hr4
    have HGK := Lib.hid (grown_own (grown_drew HGN.out) hg4 (by omega))
    clear he hrun hr4 hg4 N0 N1 N2 N3 HGN hl
    go_region
    clear hrun'
    go_wp2
    refine wp_region_steps none (by kernel_rfl) (by kernel_rfl) (by kernel_rfl) ?_
    refine Steps.val (G := Is (.agg (bytesV (clrKey key)).toArray)) (lasts_is _) rfl (fun a w hm hd => ⟨wanted_plain rfl, _, ex_load_row rfl gC 22 _ _ (by rw [hm.outer 8 (by kernel_rfl)]; rfl) (K3.out.grown0 hm.grow) Try.underlying22 rfl (by rw [HCL.out]; kernel_rfl), rfl⟩) ?_
    refine Steps.val (G := Is (.slice A m c)) (lasts_is _) rfl (fun a w hm hd => ⟨wanted_plain rfl, _, ex_move rfl, (by rw [hm.outer 1 (by kernel_rfl)]; rfl)⟩) ?_
    refine Steps.call (G := Is (.agg (bytesV (tagB key b)).toArray)) (lasts_is _) rfl 11 (fun a w hm hd => ⟨wanted_plain rfl, _, ex_call2 Try.func11 (by kernel_rfl) (by kernel_rfl) rfl, by
      rw [show a.eval (.tmp 21) = _ from hd.at_ 0 rfl rfl rfl, show a.eval (.tmp 22) = _ from hd.at_ 1 rfl rfl rfl]
      exact Val.made (H1.out w (HGK.out.trans hm.grow))⟩) ?_
    refine Steps.val (G := Is (.agg (bytesV key).toArray)) (lasts_is _) rfl (fun a w hm hd => ⟨wanted_plain rfl, _, ex_load_row rfl G 22 _ _ (by rw [hm.outer 3 (by kernel_rfl)]; rfl) (K0.out.grown0 hm.grow) Try.underlying22 rfl (by rw [HKL.out]; kernel_rfl), rfl⟩) ?_
    refine Steps.val (G := Is (.slice A m c)) (lasts_is _) rfl (fun a w hm hd => ⟨wanted_plain rfl, _, ex_move rfl, (by rw [hm.outer 1 (by kernel_rfl)]; rfl)⟩) ?_
    refine Steps.call (G := Is (.agg (bytesV (tagB key b)).toArray)) (lasts_is _) rfl 11 (fun a w hm hd => ⟨wanted_plain rfl, _, ex_call2 Try.func11 (by kernel_rfl) (by kernel_rfl) rfl, by
      rw [show a.eval (.tmp 24) = _ from hd.at_ 3 rfl rfl rfl, show a.eval (.tmp 25) = _ from hd.at_ 4 rfl rfl rfl]
      exact Val.made (H2.out w (HGK.out.trans hm.grow))⟩) ?_
    refine Steps.val (G := Is (.bool true)) (lasts_is _) rfl (fun a w hm hd => ⟨wanted_plain rfl, _, ex_eq16 rfl HTT.out (hd.at_ 2 rfl rfl rfl) (hd.at_ 5 rfl rfl rfl), rfl⟩) ?_
    refine Steps.val (G := Is (.bool true)) (lasts_is _) rfl (fun a w hm hd => ⟨wanted_plain rfl, _, ex_move rfl, hd.at_ 6 rfl rfl rfl⟩) ?_
    refine Steps.val (G := Is (.agg (bytesV s).toArray)) (lasts_is _) rfl (fun a w hm hd => ⟨wanted_at rfl rfl (hd.at_ 7 rfl rfl rfl), _, ex_load_row rfl (G + 1) 25 _ _ (by rw [hm.outer 5 (by kernel_rfl)]; rfl) (K1.out.grown0 hm.grow) Try.underlying25 rfl (by rw [HSL.out]; kernel_rfl), rfl⟩) ?_
    refine Steps.val (G := Is (.agg (bytesV (clampB key)).toArray)) (lasts_is _) rfl (fun a w hm hd => ⟨wanted_at rfl rfl (hd.at_ 7 rfl rfl rfl), _, ex_load_row rfl gR 25 _ _ (by rw [hm.outer 7 (by kernel_rfl)]; rfl) (K2.out.grown0 hm.grow) Try.underlying25 rfl (by rw [HRV.out]; kernel_rfl), rfl⟩) ?_
    refine Steps.call (G := Is (.agg (bytesV (timesB s (key.take 16))).toArray)) (lasts_is _) rfl 14 (fun a w hm hd => ⟨wanted_at rfl rfl (hd.at_ 7 rfl rfl rfl), _, ex_call2 Try.func14 (by kernel_rfl) (by kernel_rfl) rfl, by
      rw [show a.eval (.tmp 29) = _ from hd.at_ 8 rfl rfl rfl, show a.eval (.tmp 30) = _ from hd.at_ 9 rfl rfl rfl]
      exact H3.out w⟩) ?_
    refine Steps.val (G := Is (.agg (bytesV s).toArray)) (lasts_is _) rfl (fun a w hm hd => ⟨wanted_at rfl rfl (hd.at_ 7 rfl rfl rfl), _, ex_load_row rfl (G + 1) 25 _ _ (by rw [hm.outer 5 (by kernel_rfl)]; rfl) (K1.out.grown0 hm.grow) Try.underlying25 rfl (by rw [HSL.out]; kernel_rfl), rfl⟩) ?_
    refine Steps.val (G := Is (.slice (some ⟨G, 0, none⟩) 16 32)) (lasts_is _) rfl (fun a w hm hd => ⟨wanted_at rfl rfl (hd.at_ 7 rfl rfl rfl), _, ex_to16 rfl (by rw [hm.outer 3 (by kernel_rfl)]; rfl), rfl⟩) ?_
    refine Steps.val (G := Is (.pointer (some ⟨G, 0, none⟩))) (lasts_is _) rfl (fun a w hm hd => ⟨wanted_at rfl rfl (hd.at_ 7 rfl rfl rfl), _, ex_toptr rfl (hd.at_ 12 rfl rfl rfl), rfl⟩) ?_
    refine Steps.val (G := Is (.agg (bytesV (key.take 16)).toArray)) (lasts_is _) rfl (fun a w hm hd => ⟨wanted_at rfl rfl (hd.at_ 7 rfl rfl rfl), _, ex_load_part rfl G 0 22 (bytesV key) (bytesV (key.take 16)) _ (hd.at_ 13 rfl rfl rfl) (K0.out.grown0 hm.grow) HPART.out Try.underlying25 rfl (by rw [HTL.out]; kernel_rfl), rfl⟩) ?_
    refine Steps.call (G := Is (.agg (bytesV (timesB s (key.take 16))).toArray)) (lasts_is _) rfl 14 (fun a w hm hd => ⟨wanted_at rfl rfl (hd.at_ 7 rfl rfl rfl), _, ex_call2 Try.func14 (by kernel_rfl) (by kernel_rfl) rfl, by
      rw [show a.eval (.tmp 32) = _ from hd.at_ 11 rfl rfl rfl, show a.eval (.tmp 35) = _ from hd.at_ 14 rfl rfl rfl]
      exact H4.out w⟩) ?_
    refine Steps.val (G := Is (.bool true)) (lasts_is _) rfl (fun a w hm hd => ⟨wanted_at rfl rfl (hd.at_ 7 rfl rfl rfl), _, ex_eq17 rfl HTM.out (hd.at_ 10 rfl rfl rfl) (hd.at_ 15 rfl rfl rfl), rfl⟩) ?_
    refine Steps.val (G := Is (.bool true)) (lasts_is _) rfl (fun a w hm hd => ⟨wanted_plain rfl, _, ex_pick rfl (hd.at_ 7 rfl rfl rfl) (hd.at_ 16 rfl rfl rfl), rfl⟩) ?_
    refine Steps.val (G := Is (.bool true)) (lasts_is _) rfl (fun a w hm hd => ⟨wanted_plain rfl, _, ex_move rfl, hd.at_ 17 rfl rfl rfl⟩) ?_
    refine Steps.call (G := Is (.bool true)) (lasts_is _) rfl 10 (fun a w hm hd => ⟨wanted_at rfl rfl (hd.at_ 18 rfl rfl rfl), _, ex_call0 Try.func10 (by kernel_rfl) (by kernel_rfl) rfl, by
      refine (awake_any w).mono ?_
      rintro e w' ⟨rfl, hg⟩
      exact ⟨_, rfl, hg, rfl⟩⟩) ?_
    refine Steps.val (G := Is (.bool true)) (lasts_is _) rfl (fun a w hm hd => ⟨wanted_plain rfl, _, ex_pick rfl (hd.at_ 18 rfl rfl rfl) (hd.at_ 19 rfl rfl rfl), rfl⟩) ?_
    refine Steps.val (G := Is (.bool true)) (lasts_is _) rfl (fun a w hm hd => ⟨wanted_plain rfl, _, ex_assign rfl, hd.at_ 20 rfl rfl rfl⟩) ?_
    intro a V hmid hall
    have h2 : a.eval (.tmp 6) = .bool true := hall 21 _ 6 rfl rfl
    have hdf : a.defers = [] := hmid.defers
    have hgr := hmid.grow
    clear hall hmid
    obtain ⟨tm, df⟩ := a
    simp only at hdf
    subst hdf
    go_wp2
    go_ret
    exact ⟨congrArg Ending.returned h2, HGK.out.trans hgr⟩
end Go.Proofs.Ytnekdjejbobmoaa
