/-
  The law PolyOne, walked.
-/
import Derived.Test.YtnekdjejbobmoaaPolOps
namespace Go.Proofs.Ytnekdjejbobmoaa
open Go.RowKit

theorem one_row (b : List UInt8) (h : b.length ≤ 15) : (splice (noughts8 16) 0 ((bytesV b).take 16)).set b.length (.int .u8 1) = bytesV (oneB b) := by
  rw [List.take_of_length_le (by rw [bytesV_len]; omega), splice_zero, bytesV_len]
  unfold noughts8 oneB
  rw [List.drop_replicate, show 16 - b.length = (15 - b.length) + 1 by omega, List.replicate_succ, bytesV_app, List.set_append_right _ _ (by rw [bytesV_len]; exact Nat.le_refl _), bytesV_len, Nat.sub_self, List.set_cons_zero]
  simp [bytesV, byteV]
theorem one32_cells : (bytesV one32).toArray = #[.int .u8 1, .int .u8 0, .int .u8 0, .int .u8 0, .int .u8 0, .int .u8 0, .int .u8 0, .int .u8 0, .int .u8 0, .int .u8 0, .int .u8 0, .int .u8 0, .int .u8 0, .int .u8 0, .int .u8 0, .int .u8 0, .int .u8 0, .int .u8 0, .int .u8 0, .int .u8 0, .int .u8 0, .int .u8 0, .int .u8 0, .int .u8 0, .int .u8 0, .int .u8 0, .int .u8 0, .int .u8 0, .int .u8 0, .int .u8 0, .int .u8 0, .int .u8 0] := rfl
theorem ex_one32 {o : Oper} {a : Act} {w : World} (h : o.op = .build 22 #[(0, .const (.int .u8 1))]) : (execOp a.eval o).run Try.prog w = .ok (.value (.agg (bytesV one32).toArray)) w := by
  rw [one32_cells]
  simp only [execOp, h]
  kernel_rfl

set_option maxHeartbeats 8000000 in
theorem polyOne_walk (A : Option Addr) (m c : Nat) (b : List UInt8) (w : World) (hr : Rd w (.slice A m c) (bytesV b)) :
    Calls Try.prog 8 #[.slice A m c] w (Awake w) := by
  have hbl : b.length = m := by have := hr.len.1; rwa [bytesV_len] at this
  have HBL := Lib.hid hbl
  have HRD := Lib.hid hr
  have hcm := hr.len.2.2
  unfold maxLen at hcm
  have hmc := hr.len.2.1
  clear hr
  by_cases hm : 15 < m
  · have hdec : decide (15 < (m : Int)) = true := by simp; omega
    clear hm
    go_enter Try.func8, Try.ntmps8
    go_wp2_with (go_at_call 10; refine (awake_any _).mono ?_; rintro e w5 ⟨rfl, hg5⟩)
    go_ret
    exact ⟨rfl, hg5⟩
  · have hdec : decide (15 < (m : Int)) = false := by simp; omega
    have hm5 : m ≤ 15 := by omega
    clear hm
    by_cases h0 : m = 0
    · subst h0
      obtain rfl : b = [] := List.eq_nil_of_length_eq_zero hbl
      have H1 := Lib.hid (fun W (hg : w.grownBy W none) => tag_any one32 rfl (.slice A 0 c) [] W (HRD.out.grown0 hg) (by decide))
      rw [tag_one_none, one32_cells] at H1
      have heq := eq_self16 (List.replicate 16 0) rfl
      have hz : (bytesV (List.replicate 16 0)).toArray = #[.int .u8 0, .int .u8 0, .int .u8 0, .int .u8 0, .int .u8 0, .int .u8 0, .int .u8 0, .int .u8 0, .int .u8 0, .int .u8 0, .int .u8 0, .int .u8 0, .int .u8 0, .int .u8 0, .int .u8 0, .int .u8 0] := rfl
      rw [hz] at H1 heq
      clear hz hbl HBL
      go_enter Try.func8, Try.ntmps8
      go_wp2_with (first
        | (go_at_call 11; refine (H1.out _ (grown_refl _ _)).mono ?_; rintro e w1 ⟨rfl, hg1⟩)
        | (go_at_call 10; refine (awake_any _).mono ?_; rintro e w5 ⟨rfl, hg5⟩))
      go_ret
      exact ⟨rfl, hg1.trans hg5⟩
    have hdec0 : decide ((m : Int) = 0) = false := by simp; omega
    have H1 := Lib.hid (fun W (hg : w.grownBy W none) => tag_any one32 rfl (.slice A m c) b W (HRD.out.grown0 hg) (by omega))
    rw [tag_one b (by omega) (by omega)] at H1
    have hol : (oneB b).length = 16 := by simp [oneB]; omega
    have HOL := Lib.hid hol
    have HOV := Lib.hid (show (bytesV (oneB b)).length = 16 by rw [bytesV_len, hol])
    generalize hG : w.heap.size = G
    obtain ⟨W0, hW0⟩ : ∃ W, w.alloc (.cells (noughts8 16).toArray 25) = W := ⟨_, rfl⟩
    have R0 := Lib.hid (show Row W0 G 25 (noughts8 16) by rw [← hW0]; exact Row.newAt w _ (noughts8 16) hG)
    have HGR := Lib.hid (show w.grownBy W0 none by rw [← hW0]; exact grown_alloc (grown_refl _ _) _)
    simp only [noughts8, List.replicate] at hW0
    obtain ⟨w1, hrun, hr1, hg1⟩ := run_copy_gen (P := Try.prog) W0 23 3 5 Try.underlying23 (by kernel_rfl) G 0 16 16 _ (bytesV b) (HRD.out.grown0 HGR.out) (bytesV_one _) (noughts8 16) 25 R0.out (by decide)
    rw [bytesV_len, hbl, Nat.min_eq_left (by omega)] at hrun
    have hset := one_row b (by omega)
    rw [hbl] at hset
    have hcell : ∃ z, w1.cell? ⟨G, m, none⟩ = some z := ⟨_, hr1.cell (List.getElem?_eq_getElem (by simp [splice, noughts8]; omega))⟩
    obtain ⟨z, hz⟩ := hcell
    have hfz := hr1.frozen m
    have hlt16 : (m : Int) < 16 := by omega
    obtain ⟨W2, hW2⟩ : ∃ W, w1.setCell ⟨G, m, none⟩ (.int .u8 1) = W := ⟨_, rfl⟩
    have R2 := Lib.hid (show Row W2 G 25 (bytesV (oneB b)) by rw [← hset, ← hW2]; exact hr1.set m _)
    have HG2 := Lib.hid (show w.grownBy W2 none by rw [← hW2]; exact grown_own (grown_own HGR.out hg1 (by omega)) (grown_set w1 G m _) (by omega))
    clear hset hr1 hg1 hbl R0 HGR hol
    go_enter Try.func8, Try.ntmps8
    go_wp2
    refine wp_region_steps none (by kernel_rfl) (by kernel_rfl) (by kernel_rfl) ?_
    refine Steps.val (G := Is (.agg (bytesV one32).toArray)) (lasts_is _) rfl (fun a w hm hd => ⟨wanted_plain rfl, _, ex_one32 rfl, rfl⟩) ?_
    refine Steps.val (G := Is (.slice A m c)) (lasts_is _) rfl (fun a w hm hd => ⟨wanted_plain rfl, _, ex_move rfl, (by rw [hm.outer 0 (by kernel_rfl)]; rfl)⟩) ?_
    refine Steps.call (G := Is (.agg (bytesV (oneB b)).toArray)) (lasts_is _) rfl 11 (fun a w hm hd => ⟨wanted_plain rfl, _, ex_call2 Try.func11 (by kernel_rfl) (by kernel_rfl) rfl, by
      rw [show a.eval (.tmp 25) = _ from hd.at_ 0 rfl rfl rfl, show a.eval (.tmp 26) = _ from hd.at_ 1 rfl rfl rfl]
      exact Val.made (H1.out w (HG2.out.trans hm.grow))⟩) ?_
    refine Steps.val (G := Is (.agg (bytesV (oneB b)).toArray)) (lasts_is _) rfl (fun a w hm hd => ⟨wanted_plain rfl, _, ex_load_row rfl G 25 _ _ (by rw [hm.outer 3 (by kernel_rfl)]; rfl) (R2.out.grown0 hm.grow) Try.underlying25 rfl (by rw [HOV.out]; kernel_rfl), rfl⟩) ?_
    refine Steps.val (G := Is (.bool true)) (lasts_is _) rfl (fun a w hm hd => ⟨wanted_plain rfl, _, ex_eq16 rfl HOL.out (hd.at_ 2 rfl rfl rfl) (hd.at_ 3 rfl rfl rfl), rfl⟩) ?_
    refine Steps.val (G := Is (.bool true)) (lasts_is _) rfl (fun a w hm hd => ⟨wanted_plain rfl, _, ex_move rfl, hd.at_ 4 rfl rfl rfl⟩) ?_
    refine Steps.call (G := Is (.bool true)) (lasts_is _) rfl 10 (fun a w hm hd => ⟨wanted_at rfl rfl (hd.at_ 5 rfl rfl rfl), _, ex_call0 Try.func10 (by kernel_rfl) (by kernel_rfl) rfl, by
      refine (awake_any w).mono ?_
      rintro e w' ⟨rfl, hg⟩
      exact ⟨_, rfl, hg, rfl⟩⟩) ?_
    refine Steps.val (G := Is (.bool true)) (lasts_is _) rfl (fun a w hm hd => ⟨wanted_plain rfl, _, ex_pick rfl (hd.at_ 5 rfl rfl rfl) (hd.at_ 6 rfl rfl rfl), rfl⟩) ?_
    refine Steps.val (G := Is (.bool true)) (lasts_is _) rfl (fun a w hm hd => ⟨wanted_plain rfl, _, ex_assign rfl, hd.at_ 7 rfl rfl rfl⟩) ?_
    intro a V hmid hall
    have h2 : a.eval (.tmp 2) = .bool true := hall 8 _ 2 rfl rfl
    have hdf : a.defers = [] := hmid.defers
    have hgr := hmid.grow
    clear hall hmid
    obtain ⟨tm, df⟩ := a
    simp only at hdf
    subst hdf
    go_wp2
    go_ret
    exact ⟨congrArg Ending.returned h2, HG2.out.trans hgr⟩
end Go.Proofs.Ytnekdjejbobmoaa
