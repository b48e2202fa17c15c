/-
  The document's own Clamp over this program.
-/
import Derived.Test.YtnekdjejbobmoaaRpTimes
namespace Go.Proofs.Ytnekdjejbobmoaa
open Go.RowKit

theorem Rd.byte1 (w : World) (x : UInt8) : Rd (w.alloc (.cells #[.int .u8 (x.toNat : Int)] 5)) (.slice (some ⟨w.heap.size, 0, none⟩) 1 1) (bytesV [x]) := Rd.one w _ 5
theorem clampB_more (r : List UInt8) (k : Nat) (h : k < 16) : (clampB r).take (k + 1) = (clampB r).take k ++ [clr k (r.getD k 0)] := by
  rw [List.take_add_one, List.getElem?_eq_getElem (by rw [clampB_len]; exact h)]
  have := clampB_at r k h
  rw [List.getD_eq_getElem?_getD, List.getElem?_eq_getElem (by rw [clampB_len]; exact h)] at this
  rw [← this]
  rfl

set_option maxHeartbeats 8000000 in
theorem rclamp_any (v : Value) (r : List UInt8) (h16 : r.length = 16) (w : World) (h : Rd w v (bytesV r)) :
    Calls Try.prog 16 #[v] w (Out w (clampB r)) := by
  have H := Lib.hid h
  have H16 := Lib.hid h16
  obtain ⟨A, c, rfl⟩ := h.form
  rw [bytesV_len, h16] at h H ⊢
  clear h h16
  go_enter Try.func16, Try.ntmps16
  go_wp2
  go_loopw [3, 4] (fun o i W => ∃ k : Nat, k ≤ 16 ∧ i = .int .i64 k ∧ W.ownsRow w.heap.size 5 1 o k (bytesV ((clampB r).take k)) ∧ w.grownBy W none) (fun _ i _ => 16 - (intOf i).toNat)
  case atStart => exact ⟨0, Nat.zero_le _, rfl, World.ownsRow_nil _ _ _ _, grown_refl _ _⟩
  case round =>
    obtain ⟨k, hk, rfl, ho, hg⟩ := hrel
    have HO := Lib.hid ho
    have HG := Lib.hid hg
    clear ho hg
    by_cases hlt : k < 16
    · obtain ⟨ad, rfl, hcl⟩ := (H.out.grown0 HG.out).cells (by intro e; have := congrArg List.length e; rw [bytesV_len, H16.out] at this; simp at this)
      have hc0 := hcl k _ (bytesV_at r k (by rw [H16.out]; exact hlt))
      have HM := Lib.hid (clampB_more r k hlt)
      generalize r.getD k 0 = x at *
      have hx := UInt8.toNat_lt x
      have hdec : decide ((k : Int) < 16) = true := by simp; omega
      clear hcl
      have fin : ∀ (e : Int), e = ((clr k x).toNat : Int) → Rd (wr.alloc (.cells #[.int .u8 e] 5)) (.slice (some ⟨wr.heap.size, 0, none⟩) 1 1) (bytesV [clr k x]) := fun e he => by rw [he]; exact Rd.byte1 wr _
      have FIN := Lib.hid fin
      clear fin
      by_cases h3 : k % 4 = 3
      · have hm3 : (((k : Int) % 4) == 3) = true := by rw [beq_iff_eq]; omega
        have hm0 : (((k : Int) % 4) == 0) = false := by rw [beq_eq_false_iff_ne]; omega
        have HC := Lib.hid (show (x.toNat : Int) % 16 = ((clr k x).toNat : Int) by unfold clr; rw [if_pos h3, UInt8.toNat_ofNat']; omega)
        go_wp2_with (at_builtin; refine wpList_append_bytes _ rfl _ _ rfl w.heap.size _ k _ rfl (HO.out.alloc _) _ [clr k x] rfl (FIN.out _ HC.out) ?_ ?_ ?_)
        · simp; omega
        · have := HG.out.size; simp; omega
        intro v' w' ho hg hat
        have HO' := Lib.hid ho
        have HG' := Lib.hid hg
        clear ho hg hat
        go_wp2
        go_roundw
        case rel =>
          refine ⟨k + 1, by omega, by go_num, ?_, grown_new (grown_alloc HG.out _) HG'.out (fun b hb => (HO.out.lt b hb).1)⟩
          rw [HM.out, bytesV_app]
          exact HO'.out
        case measure => simp [intOf]; omega
      · by_cases h0 : k % 4 = 0 ∧ 0 < k
        · have hm3 : (((k : Int) % 4) == 3) = false := by rw [beq_eq_false_iff_ne]; omega
          have hm0 : (((k : Int) % 4) == 0) = true := by rw [beq_iff_eq]; omega
          have hk0 : 0 < k := h0.2
          have HC := Lib.hid (show (x.toNat : Int) / 4 * 4 = ((clr k x).toNat : Int) by unfold clr; rw [if_neg h3, if_pos h0, UInt8.toNat_ofNat']; omega)
          go_wp2_with (at_builtin; refine wpList_append_bytes _ rfl _ _ rfl w.heap.size _ k _ rfl (HO.out.alloc _) _ [clr k x] rfl (FIN.out _ HC.out) ?_ ?_ ?_)
          · simp; omega
          · have := HG.out.size; simp; omega
          intro v' w' ho hg hat
          have HO' := Lib.hid ho
          have HG' := Lib.hid hg
          clear ho hg hat
          go_wp2
          go_roundw
          case rel =>
            refine ⟨k + 1, by omega, by go_num, ?_, grown_new (grown_alloc HG.out _) HG'.out (fun b hb => (HO.out.lt b hb).1)⟩
            rw [HM.out, bytesV_app]
            exact HO'.out
          case measure => simp [intOf]; omega
        · have hm3 : (((k : Int) % 4) == 3) = false := by rw [beq_eq_false_iff_ne]; omega
          have HC := Lib.hid (show (x.toNat : Int) = ((clr k x).toNat : Int) by unfold clr; rw [if_neg h3, if_neg h0])
          have split0 : (k = 0) ∨ (¬ k % 4 = 0) := by omega
          rcases split0 with hk0 | hk0
          · subst hk0
            have hc00 : wr.cell? ad = some (.int .u8 (x.toNat : Int)) := by
              rw [show ad.add 0 = ad by simp [Addr.add]] at hc0
              exact hc0
            go_wp2_with (at_builtin; refine wpList_append_bytes _ rfl _ _ rfl w.heap.size _ 0 _ rfl (HO.out.alloc _) _ [clr 0 x] rfl (FIN.out _ HC.out) ?_ ?_ ?_)
            · have := HG.out.size; omega
            intro v' w' ho hg hat
            have HO' := Lib.hid ho
            have HG' := Lib.hid hg
            clear ho hg hat
            go_wp2
            go_roundw
            case rel =>
              refine ⟨0 + 1, by omega, by go_num, ?_, grown_new (grown_alloc HG.out _) HG'.out (fun b hb => (HO.out.lt b hb).1)⟩
              rw [HM.out, bytesV_app]
              exact HO'.out
            case measure => simp [intOf]
          · have hm0 : (((k : Int) % 4) == 0) = false := by rw [beq_eq_false_iff_ne]; omega
            go_wp2_with (at_builtin; refine wpList_append_bytes _ rfl _ _ rfl w.heap.size _ k _ rfl (HO.out.alloc _) _ [clr k x] rfl (FIN.out _ HC.out) ?_ ?_ ?_)
            · simp; omega
            · have := HG.out.size; simp; omega
            intro v' w' ho hg hat
            have HO' := Lib.hid ho
            have HG' := Lib.hid hg
            clear ho hg hat
            go_wp2
            go_roundw
            case rel =>
              refine ⟨k + 1, by omega, by go_num, ?_, grown_new (grown_alloc HG.out _) HG'.out (fun b hb => (HO.out.lt b hb).1)⟩
              rw [HM.out, bytesV_app]
              exact HO'.out
            case measure => simp [intOf]; omega
    · have hk16 : k = 16 := by omega
      subst hk16
      rw [List.take_of_length_le (by rw [clampB_len]; exact Nat.le_refl _)] at HO
      clear hk hlt
      go_wp2
      go_ret
      exact ⟨_, rfl, Rd.of_own HO.out, HG.out, fun b hb => by
        rcases HO.out.2 with ⟨rfl, _⟩ | ⟨gg, cc, cur, rfl, hbase, hcells, _⟩
        · cases hb
        · cases hb; exact ⟨hbase, (Array.getElem?_eq_some_iff.1 hcells).1⟩⟩
end Go.Proofs.Ytnekdjejbobmoaa
