/-
  The law PolyNothing, walked.
-/
import Derived.Test.YtnekdjejbobmoaaPolOps
namespace Go.Proofs.Ytnekdjejbobmoaa
open Go.RowKit

def zerK (key : List UInt8) (k : Nat) : List UInt8 := List.replicate k 0 ++ key.drop k
theorem zerK_len (key : List UInt8) (hk : key.length = 32) (k : Nat) (h : k ≤ 32) : (zerK key k).length = 32 := by simp [zerK, hk]; omega
theorem zerK_set (key : List UInt8) (hk : key.length = 32) (k : Nat) (h : k < 32) : (zerK key k).set k 0 = zerK key (k + 1) := by
  unfold zerK
  rw [List.set_append_right _ _ (by simp), List.length_replicate, Nat.sub_self, List.drop_eq_getElem_cons (by omega), List.set_cons_zero, List.replicate_succ']
  simp

set_option maxHeartbeats 8000000 in
theorem polyNothing_walk (key : List UInt8) (hk : key.length = 32) (A : Option Addr) (m c : Nat) (b : List UInt8) (w : World) (hr : Rd w (.slice A m c) (bytesV b)) :
    Calls Try.prog 7 #[.agg (bytesV key).toArray, .slice A m c] w (Awake w) := by
  have hbl : b.length = m := by have := hr.len.1; rwa [bytesV_len] at this
  have HBL := Lib.hid hbl
  have HK := Lib.hid hk
  have HKL := Lib.hid (show (bytesV key).length = 32 by rw [bytesV_len, hk])
  have HKO := Lib.hid (fun x hx => bytesV_one key x hx)
  generalize hG : w.heap.size = G
  have HG := Lib.hid hG
  obtain ⟨W0, hW0⟩ : ∃ W, w.alloc (.cells (bytesV key).toArray 22) = W := ⟨_, rfl⟩
  have R0 := Lib.hid (show Row W0 G 22 (bytesV key) by rw [← hW0]; exact Row.newAt w _ (bytesV key) hG)
  have HGR := Lib.hid (show w.grownBy W0 none by rw [← hW0]; exact grown_alloc (grown_refl _ _) _)
  have HRD := Lib.hid hr
  have hcm := hr.len.2.2
  unfold maxLen at hcm
  have hmc := hr.len.2.1
  clear hr hbl hk
  by_cases hm : 100 < m
  · have hdec : decide (100 < (m : Int)) = true := by simp; omega
    clear hm
    go_enter Try.func7, Try.ntmps7
    go_wp2_with (go_at_call 10; refine (awake_any _).mono ?_; rintro e w5 ⟨rfl, hg5⟩)
    go_ret
    exact ⟨rfl, HGR.out.trans hg5⟩
  · have hdec : decide (100 < (m : Int)) = false := by simp; omega
    have hm5 : m ≤ 100 := by omega
    clear hm
    have H1 := Lib.hid (fun w => tag_any key HK.out (.slice none 0 0) [] w (Rd.nil w) (by decide))
    rw [tag_none key HK.out] at H1
    have hdl : (key.drop 16).length = 16 := by rw [List.length_drop, HK.out]
    have HDL := Lib.hid (show (bytesV (key.drop 16)).length = 16 by rw [bytesV_len, hdl])
    have HDO := Lib.hid (fun x hx => bytesV_one (key.drop 16) x hx)
    go_enter Try.func7, Try.ntmps7
    go_wp2_with (refine wpList_load_row _ rfl _ 22 rfl G 22 (bytesV key) _ rfl R0.out Try.underlying22 rfl (by rw [HKL.out]; kernel_rfl) ?_)
    clear hG hW0
    refine (H1.out _).mono ?_
    rintro e w1 ⟨rfl, hg1⟩
    have Q0 := Lib.hid (R0.out.grown0 hg1)
    have HGQ := Lib.hid (HGR.out.trans hg1)
    have hlt1 := Q0.out.lt
    clear hg1 R0 HGR H1
    go_wp2_with (first
      | (refine wpList_store_row _ rfl rfl _ _ 25 rfl w1.heap.size 25 (noughts8 16) (bytesV (key.drop 16)) rfl rfl (Row.new w1 25 (noughts8 16)) (by rw [HDL.out]; rfl) HDO.out (by rw [HDL.out]; kernel_rfl) ?_; intro w2 hr2 hg2; have Q1 := Lib.hid ((Q0.out.alloc (.cells (noughts8 16).toArray 25)).grown hg2 (by simp; omega)))
      | refine wpList_load_row _ rfl _ 22 rfl G 22 (bytesV key) _ rfl Q1.out Try.underlying22 rfl (by rw [HKL.out]; kernel_rfl) ?_
      | (refine wpList_store_row _ rfl rfl _ _ 22 rfl w2.heap.size 22 (noughts8 32) (bytesV key) rfl rfl (Row.new w2 22 (noughts8 32)) (by rw [HKL.out]; rfl) HKO.out (by rw [HKL.out]; kernel_rfl) ?_; intro w3 hr3 hg3))
    have hs2 : w1.heap.size + 1 ≤ w2.heap.size := by have := hg2.size; simpa using this
    have hs3 : w2.heap.size + 1 ≤ w3.heap.size := by have := hg3.size; simpa using this
    have hsw := HGQ.out.size
    have N0 := Lib.hid ((Q1.out.alloc (.cells (noughts8 32).toArray 22)).grown hg3 (by simp; omega))
    have N1 := Lib.hid ((hr2.alloc (.cells (noughts8 32).toArray 22)).grown hg3 (by simp; omega))
    have N2 := Lib.hid hr3
    have HGN := Lib.hid (grown_own (grown_alloc (grown_own (grown_alloc HGQ.out (.cells (noughts8 16).toArray 25)) hg2 hsw) (.cells (noughts8 32).toArray 22)) hg3 (by omega))
    have HLT := Lib.hid (show G < w1.heap.size ∧ w1.heap.size < w2.heap.size ∧ w2.heap.size < w3.heap.size ∧ w.heap.size ≤ w1.heap.size by omega)
    clear hs2 hs3 hsw hr2 hg2 hr3 hg3 hlt1 Q0 Q1 HGQ
    generalize w1.heap.size = gX at *
    generalize w2.heap.size = gZ at *
    go_loopw [16] (fun i W => ∃ k : Nat, k ≤ 16 ∧ i = .int .i64 k ∧ Row W G 22 (bytesV key) ∧ Row W gX 25 (bytesV (key.drop 16)) ∧ Row W gZ 22 (bytesV (zerK key k)) ∧ w.grownBy W none) (fun i _ => 16 - (intOf i).toNat)
    case atStart => exact ⟨0, Nat.zero_le _, rfl, N0.out, N1.out, by rw [show zerK key 0 = key by simp [zerK]]; exact N2.out, HGN.out⟩
    case round =>
      clear N0 N1 N2 HGN
      obtain ⟨k, hk, rfl, r0, r1, r2, hgr⟩ := hrel
      have N0 := Lib.hid r0
      have N1 := Lib.hid r1
      have N2 := Lib.hid r2
      have HGN := Lib.hid hgr
      clear r0 r1 hgr
      by_cases hlt : k < 16
      · have hc2 := r2.cell (bytesV_at (zerK key k) k (by rw [zerK_len key HK.out k (by omega)]; omega))
        have hf2 := r2.frozen k
        have HS := Lib.hid (zerK_set key HK.out k (by omega))
        have hl := HLT.out
        clear r2
        go_wp2
        go_roundw
        case rel =>
          refine ⟨k + 1, by omega, by go_num, N0.out.other (by omega) _, N1.out.other (by omega) _, ?_, grown_own HGN.out (grown_set wr gZ k _) (by omega)⟩
          rw [← HS.out, ← bytesV_set]
          exact N2.out.set k _
        case measure => simp [intOf]; omega
      · have hk16 : k = 16 := by omega
        subst hk16
        have hz32 : (zerK key 16).length = 32 := zerK_len key HK.out 16 (by decide)
        have HZL := Lib.hid (show (bytesV (zerK key 16)).length = 32 by rw [bytesV_len, hz32])
        have H2 := Lib.hid (fun W (hg : w.grownBy W none) => tag_any (zerK key 16) hz32 (.slice A m c) b W (HRD.out.grown0 hg) (by rw [HBL.out]; omega))
        rw [tag_zero (zerK key 16) b hz32 (by simp [zerK]), show (zerK key 16).drop 16 = key.drop 16 by simp [zerK]] at H2
        clear r2 hk hlt hz32
        go_wp2_with (refine wpList_load_row _ rfl _ 22 rfl gZ 22 (bytesV (zerK key 16)) _ rfl N2.out Try.underlying22 rfl (by rw [HZL.out]; kernel_rfl) ?_)
        refine (H2.out _ HGN.out).mono ?_
        rintro e w4 ⟨rfl, hg4⟩
        have M0 := Lib.hid (N0.out.grown0 hg4)
        have M1 := Lib.hid (N1.out.grown0 hg4)
        have HGM := Lib.hid (HGN.out.trans hg4)
        have hl := HLT.out
        have hlt1 := M1.out.lt
        have hsw := HGM.out.size
        clear hg4 N0 N1 N2 HGN H2
        go_wp2_with (refine wpList_store_row _ rfl rfl _ _ 25 rfl w4.heap.size 25 (noughts8 16) (bytesV (key.drop 16)) rfl rfl (Row.new w4 25 (noughts8 16)) (by rw [HDL.out]; rfl) HDO.out (by rw [HDL.out]; kernel_rfl) ?_; intro w5 hr5 hg5)
        have K0 := Lib.hid ((M0.out.alloc (.cells (noughts8 16).toArray 25)).grown hg5 (by simp; omega))
        have K1 := Lib.hid ((M1.out.alloc (.cells (noughts8 16).toArray 25)).grown hg5 (by simp; omega))
        have K2 := Lib.hid hr5
        have HGK := Lib.hid (grown_own (grown_alloc HGM.out (.cells (noughts8 16).toArray 25)) hg5 hsw)
        clear hr5 hg5 M0 M1 HGM hl hlt1 hsw
        generalize w4.heap.size = gY at *
        refine wp_region_steps none (by kernel_rfl) (by kernel_rfl) (by kernel_rfl) ?_
        refine Steps.val (G := IsB (key.drop 16)) (lasts_bytes _) rfl (fun a w hm hd => ⟨wanted_plain rfl, _, ex_all16 rfl (by rw [hm.outer 5 (by kernel_rfl)]; rfl), (K1.out.grown0 hm.grow).rds 16 16 HDL.out (by decide) (by decide)⟩) ?_
        refine Steps.val (G := Is (.string ⟨(key.drop 16).toArray⟩)) (lasts_is _) rfl (fun a w hm hd => ⟨wanted_plain rfl, _, ex_str rfl (hd.at_ 0 rfl rfl rfl), rfl⟩) ?_
        refine Steps.val (G := IsB (key.drop 16)) (lasts_bytes _) rfl (fun a w hm hd => ⟨wanted_plain rfl, _, ex_from16 rfl (by rw [hm.outer 2 (by kernel_rfl)]; rfl), (K0.out.grown0 hm.grow).half HK.out⟩) ?_
        refine Steps.val (G := Is (.string ⟨(key.drop 16).toArray⟩)) (lasts_is _) rfl (fun a w hm hd => ⟨wanted_plain rfl, _, ex_str rfl (hd.at_ 2 rfl rfl rfl), rfl⟩) ?_
        refine Steps.val (G := Is (.bool true)) (lasts_is _) rfl (fun a w hm hd => ⟨wanted_plain rfl, _, ex_eqs rfl (hd.at_ 1 rfl rfl rfl) (hd.at_ 3 rfl rfl rfl), rfl⟩) ?_
        refine Steps.val (G := Is (.bool true)) (lasts_is _) rfl (fun a w hm hd => ⟨wanted_plain rfl, _, ex_move rfl, hd.at_ 4 rfl rfl rfl⟩) ?_
        refine Steps.val (G := IsB (key.drop 16)) (lasts_bytes _) rfl (fun a w hm hd => ⟨wanted_at rfl rfl (hd.at_ 5 rfl rfl rfl), _, ex_all16 rfl (by rw [hm.outer 8 (by kernel_rfl)]; rfl), (K2.out.grown0 hm.grow).rds 16 16 HDL.out (by decide) (by decide)⟩) ?_
        refine Steps.val (G := Is (.string ⟨(key.drop 16).toArray⟩)) (lasts_is _) rfl (fun a w hm hd => ⟨wanted_at rfl rfl (hd.at_ 5 rfl rfl rfl), _, ex_str rfl (hd.at_ 6 rfl rfl rfl), rfl⟩) ?_
        refine Steps.val (G := IsB (key.drop 16)) (lasts_bytes _) rfl (fun a w hm hd => ⟨wanted_at rfl rfl (hd.at_ 5 rfl rfl rfl), _, ex_from16 rfl (by rw [hm.outer 2 (by kernel_rfl)]; rfl), (K0.out.grown0 hm.grow).half HK.out⟩) ?_
        refine Steps.val (G := Is (.string ⟨(key.drop 16).toArray⟩)) (lasts_is _) rfl (fun a w hm hd => ⟨wanted_at rfl rfl (hd.at_ 5 rfl rfl rfl), _, ex_str rfl (hd.at_ 8 rfl rfl rfl), rfl⟩) ?_
        refine Steps.val (G := Is (.bool true)) (lasts_is _) rfl (fun a w hm hd => ⟨wanted_at rfl rfl (hd.at_ 5 rfl rfl rfl), _, ex_eqs rfl (hd.at_ 7 rfl rfl rfl) (hd.at_ 9 rfl rfl rfl), rfl⟩) ?_
        refine Steps.val (G := Is (.bool true)) (lasts_is _) rfl (fun a w hm hd => ⟨wanted_plain rfl, _, ex_pick rfl (hd.at_ 5 rfl rfl rfl) (hd.at_ 10 rfl rfl rfl), rfl⟩) ?_
        refine Steps.val (G := Is (.bool true)) (lasts_is _) rfl (fun a w hm hd => ⟨wanted_plain rfl, _, ex_move rfl, hd.at_ 11 rfl rfl rfl⟩) ?_
        refine Steps.call (G := Is (.bool true)) (lasts_is _) rfl 10 (fun a w hm hd => ⟨wanted_at rfl rfl (hd.at_ 12 rfl rfl rfl), _, ex_call0 Try.func10 (by kernel_rfl) (by kernel_rfl) rfl, by
          refine (awake_any w).mono ?_
          rintro e w' ⟨rfl, hg⟩
          exact ⟨_, rfl, hg, rfl⟩⟩) ?_
        refine Steps.val (G := Is (.bool true)) (lasts_is _) rfl (fun a w hm hd => ⟨wanted_plain rfl, _, ex_pick rfl (hd.at_ 12 rfl rfl rfl) (hd.at_ 13 rfl rfl rfl), rfl⟩) ?_
        refine Steps.val (G := Is (.bool true)) (lasts_is _) rfl (fun a w hm hd => ⟨wanted_plain rfl, _, ex_assign rfl, hd.at_ 14 rfl rfl rfl⟩) ?_
        intro a V hmid hall
        have h2 : a.eval (.tmp 4) = .bool true := hall 15 _ 4 rfl rfl
        have hdf : a.defers = [] := hmid.defers
        have hgr := hmid.grow
        clear hall hmid
        obtain ⟨tm, df⟩ := a
        simp only at hdf
        subst hdf
        go_wp2
        go_ret
        exact ⟨congrArg Ending.returned h2, HGK.out.trans hgr⟩
end Go.Proofs.Ytnekdjejbobmoaa
