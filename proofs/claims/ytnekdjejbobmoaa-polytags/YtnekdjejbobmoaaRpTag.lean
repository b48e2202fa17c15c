/-
  The document's own Tag over this program.
-/
import Derived.Test.YtnekdjejbobmoaaRpClamp
namespace Go.Proofs.Ytnekdjejbobmoaa
open Go.RowKit

theorem slice_16 (A : Option Addr) (c : Nat) (hc : 32 ≤ c) (w : World) : (Instr.sliceAt 23 (.slice A 32 c) none (some (.int .i64 16)) none).run Try.prog w = .ok (.slice A 16 c) w := by
  simp [Instr.sliceAt, go_sem, Instr.sliceBounds, Instr.slice, run_underlying Try.underlying23]
  omega
theorem dg_list (l : List Nat) (h : Lt 256 l) : Dg l (val 256 l) := by
  have := dg_digs l.length (val 256 l) (val_lt 256 l h)
  rwa [digs_val 256 l h] at this
theorem dg_blk (b : List UInt8) (n : Nat) : Dg (byt (chunk b n) ++ [1]) (blk b n) := by
  have h := dg_list (byt (chunk b n) ++ [1]) (fun x hx => by
    rcases List.mem_append.1 hx with h | h
    · exact byt_lt _ x h
    · simp at h; omega)
  rw [val_append, byt_len] at h
  have e : val 256 (byt (chunk b n)) + 256 ^ (chunk b n).length * val 256 [1] = blk b n := by
    unfold blk le
    simp [val]
  rw [e] at h
  exact h
theorem byt_more (l : List UInt8) (i : Nat) (h : i < l.length) : byt (l.take (i + 1)) = byt (l.take i) ++ [(l.getD i 0).toNat] := by
  rw [List.take_add_one, List.getElem?_eq_getElem h, byt_app]
  simp [byt, List.getElem?_eq_getElem h]
theorem chunk_at (b : List UInt8) (n i : Nat) (h : i < (chunk b n).length) : (chunk b n).getD i 0 = b.getD (16 * n + i) 0 := by
  rw [chunk_len] at h
  simp only [chunk, List.getD_eq_getElem?_getD, List.getElem?_take, List.getElem?_drop]
  rw [if_pos (by omega)]
theorem leB_more (n v : Nat) : leB (n + 1) v = leB n v ++ [UInt8.ofNat (v / 256 ^ n % 256)] := by
  unfold leB
  rw [digs_more]
  simp
theorem modmul (x R : Nat) : x % PP * R % PP = x * R % PP := by
  rw [Nat.mul_mod, Nat.mod_mod, ← Nat.mul_mod]
/-- What a call answers that reads as bytes, and turns nothing old. -/
def OutB (w : World) (l : List UInt8) (e : Ending) (w' : World) : Prop := ∃ v, e = .returned v ∧ Rd w' v (bytesV l) ∧ w.grownBy w' none

set_option maxHeartbeats 16000000 in
theorem rtag_any (vk vb : Value) (key b : List UInt8) (hk : key.length = 32) (hb : b.length ≤ 100) (w : World) (h1 : Rd w vk (bytesV key)) (h2 : Rd w vb (bytesV b)) :
    Calls Try.prog 12 #[vk, vb] w (OutB w (tagB key b)) := by
  have H1 := Lib.hid h1
  have H2 := Lib.hid h2
  have HK := Lib.hid hk
  obtain ⟨A1, c1, rfl⟩ := h1.form
  obtain ⟨A2, c2, rfl⟩ := h2.form
  have hc1 := h1.len.2
  have hc2 := h2.len.2
  rw [bytesV_len] at hc1 hc2 h1 h2 H1 H2 ⊢
  rw [hk] at hc1 h1 H1 ⊢
  rw [bytesV_len]
  generalize hm : b.length = m at *
  have HM := Lib.hid hm
  obtain ⟨ad1, rfl, hcl1⟩ := h1.cells (by intro e; have := congrArg List.length e; rw [bytesV_len, hk] at this; simp at this)
  have HC1 := Lib.hid (show ∀ (W : World), w.grownBy W none → ∀ k, k < 32 → W.cell? (ad1.add k) = some (.int .u8 ((key.getD k 0).toNat : Int)) from fun W hW k hk' => by
    have hc0 := hcl1 k _ (bytesV_at key k (by omega))
    exact (World.cell?_of_block (hW.block _ (World.block_lt_of_cell? w _ hc0) (by simp))).trans hc0)
  have hsl := slice_16 (some ad1) c1 hc1.1
  have HT16 := Lib.hid (show Rd w (.slice (some ad1) 16 c1) (bytesV (key.take 16)) by
    have := h1.take (n := 16) (d := c1) (by decide) (by omega) (Nat.le_refl _)
    rw [show (bytesV key).take 16 = bytesV (key.take 16) by simp [bytesV, List.map_take]] at this
    exact this)
  have htl : (key.take 16).length = 16 := by rw [List.length_take, hk]; rfl
  have CC := Lib.hid (rclamp_any _ (key.take 16) htl w HT16.out)
  rw [clampB_take] at CC
  have HTAG := Lib.hid (show tagB key b = leB 16 (accAt (le (clampB key)) b ((m + 15) / 16) + le (key.drop 16)) by unfold tagB accOf; rw [hm])
  have HRL := Lib.hid (clampB_len key)
  unfold maxLen at hc1 hc2
  clear h1 h2 hcl1 htl hk hm HT16
  go_enter Try.func12, Try.ntmps12
  go_wp2_with fail
  refine CC.out.mono ?_
  rintro e w1 ⟨vr, rfl, hvr, hg1, _⟩
  have HVR := Lib.hid hvr
  have HG1 := Lib.hid hg1
  generalize clampB key = rb at *
  generalize hR : le rb = R at *
  have HR := Lib.hid hR
  clear hvr hg1 hR CC hsl
  go_wp2_with (refine wpList_make_ints _ rfl _ _ rfl 18 rfl rfl (by decide) ?_; intro w2 hr2 hg2)
  have HA2 := Lib.hid (hr2.rds 18 18 (by rw [intsV_len]; rfl) (by decide) (by decide))
  have HVR2 := Lib.hid (HVR.out.grown0 hg2)
  have HG2 := Lib.hid (HG1.out.trans hg2)
  clear hr2 hg2 HVR HG1
  go_loopw [6, 7] (fun u i W => ∃ n : Nat, 16 * n < m + 16 ∧ i = .int .i64 ((16 * n : Nat) : Int) ∧ Rd W u (intsV (digs 256 18 (accAt R b n))) ∧ Rd W vr (bytesV rb) ∧ w.grownBy W none) (fun _ i _ => m + 16 - (intOf i).toNat)
  case atStart => exact ⟨0, by omega, rfl, by rw [show accAt R b 0 = 0 from rfl, digs_zero]; exact HA2.out, HVR2.out, HG2.out⟩
  case round =>
    clear HA2 HVR2 HG2
    obtain ⟨n, hn, rfl, ha, hvr, hg⟩ := hrel
    have HA := Lib.hid ha
    have HVR := Lib.hid hvr
    have HG := Lib.hid hg
    clear ha hvr hg
    generalize hN : 16 * n = N at *
    have HN := Lib.hid hN
    by_cases hlt : N < m
    · have hdec : decide ((N : Int) < (m : Int)) = true := by simp; omega
      have hcl : (chunk b n).length = min 16 (m - N) := by rw [chunk_len, HM.out, hN]
      have HCL := Lib.hid hcl
      have HCA := Lib.hid (fun i (h : i < (chunk b n).length) => chunk_at b n i h)
      rw [hN] at HCA
      generalize hM : min 16 (m - N) = M at *
      have hMb : M ≤ 16 := by omega
      have HBK := Lib.hid (dg_blk b n)
      have HAC := Lib.hid (show accAt R b (n + 1) = (accAt R b n + blk b n) * R % PP from rfl)
      have HAL := Lib.hid (accAt_lt R b n)
      have HBL := Lib.hid (blk_lt b n)
      clear hcl hN
      obtain ⟨W0, hW0⟩ : ∃ W0, W0 = wr := ⟨_, rfl⟩
      subst hW0
      go_wp2
      go_loopw [8, 9] (fun u q W => ∃ i : Nat, i ≤ M ∧ q = .int .i64 ((N + i : Nat) : Int) ∧ W.ownsRow W0.heap.size 3 1 u i (intsV (byt ((chunk b n).take i))) ∧ W0.grownBy W none) (fun _ q _ => m + 1 - (intOf q).toNat)
      case atStart => exact ⟨0, Nat.zero_le _, rfl, World.ownsRow_nil _ _ _ _, grown_refl _ _⟩
      case round =>
        obtain ⟨i, hi, rfl, ho, hg⟩ := hrel
        have HO := Lib.hid ho
        have HI := Lib.hid hg
        clear ho hg
        by_cases hil : i < M
        · obtain ⟨ad2, rfl, hcl2⟩ := (H2.out.grown0 (HG.out.trans HI.out)).cells (by intro e; have := congrArg List.length e; rw [bytesV_len, HM.out] at this; simp at this; omega)
          have hc0 := hcl2 (N + i) _ (bytesV_at b (N + i) (by rw [HM.out]; omega))
          have hm1 := byt_more (chunk b n) i (by rw [HCL.out]; exact hil)
          rw [HCA.out i (by rw [HCL.out]; exact hil)] at hm1
          have HM1 := Lib.hid hm1
          have hx8 := UInt8.toNat_lt (b.getD (N + i) 0)
          generalize (b.getD (N + i) 0).toNat = x at *
          clear hm1 hcl2
          generalize hj : N + i = j at *
          have hj1 : j < m := by omega
          have hj2 : j < N + 16 := by omega
          go_wp2_with (at_builtin; refine wpList_append_ints _ rfl _ _ rfl W0.heap.size _ i _ rfl (HO.out.alloc _) _ [x] rfl (Rd.int1 wr x) ?_ ?_ ?_)
          · simp; omega
          · have := HI.out.size; simp; omega
          intro v' w' ho hg hat
          have HO' := Lib.hid ho
          have HI' := Lib.hid (grown_new (grown_alloc HI.out _) hg (fun b hb => (HO.out.lt b hb).1))
          clear ho hg hat
          go_wp2
          go_roundw
          case rel =>
            refine ⟨i + 1, by omega, congrArg (Value.int .i64) (by omega), ?_, HI'.out⟩
            rw [HM1.out, intsV_app]
            exact HO'.out
          case measure => simp [intOf]; omega
        · obtain rfl : i = M := by omega
          rw [List.take_of_length_le (by rw [HCL.out]; exact Nat.le_refl _)] at HO
          have hstop : ¬ (N + i < m ∧ N + i < N + 16) := by omega
          clear hi hil
          generalize hj : N + i = j at *
          by_cases hjm : j < m
          case' pos =>
            have hj2 : ¬ j < N + 16 := by omega
            go_wp2_with (at_builtin; refine wpList_append_ints _ rfl _ _ rfl W0.heap.size _ i _ rfl (HO.out.alloc _) _ [1] rfl (Rd.int1 wr 1) (by simp; omega) (by have := HI.out.size; simp; omega) ?_)
            intro v' w' ho hg hat
          case' neg =>
            have hj2 : ¬ j < m := hjm
            go_wp2_with (at_builtin; refine wpList_append_ints _ rfl _ _ rfl W0.heap.size _ i _ rfl (HO.out.alloc _) _ [1] rfl (Rd.int1 wr 1) (by simp; omega) (by have := HI.out.size; simp; omega) ?_)
            intro v' w' ho hg hat
          all_goals
            have HX := Lib.hid (show Rd w' v' (intsV (byt (chunk b n) ++ [1])) by
              have := Rd.of_own ho
              rw [← intsV_app] at this
              exact this)
            have hgi : W0.grownBy w' none := grown_new (grown_alloc HI.out _) hg (fun b hb => (HO.out.lt b hb).1)
            have HA6 := Lib.hid (HA.out.grown0 hgi)
            have HVR6 := Lib.hid (HVR.out.grown0 hgi)
            have HG6 := Lib.hid (HG.out.trans hgi)
            clear ho hg hat hgi hjm hj2 hstop
            have hpp : PP < 256 ^ 17 := by decide
            have HPP := Lib.hid hpp
            clear hpp
            go_wp2_with fail
            refine (add_any _ _ (digs 256 18 (accAt R b n)) (byt (chunk b n) ++ [1]) (accAt R b n) (blk b n) 18 (by decide) w' HA6.out HX.out (dg_digs 18 _ (by have := HAL.out; have := HPP.out; omega)) HBK.out).mono ?_
            rintro e w7 ⟨v7, rfl, hr7, hg7⟩
            have HR7 := Lib.hid hr7
            have HVR7 := Lib.hid (HVR6.out.grown0 hg7)
            have HG7 := Lib.hid (HG6.out.trans hg7)
            clear hr7 hg7 HA6 HVR6 HG6 HX
            go_wp2_with fail
            refine (mod_any _ (accAt R b n + blk b n) (by have := HAL.out; have := HBL.out; have := HPP.out; omega) w7 HR7.out).mono ?_
            rintro e w8 ⟨v8, rfl, hr8, hg8⟩
            have HR8 := Lib.hid hr8
            have HVR8 := Lib.hid (HVR7.out.grown0 hg8)
            have HG8 := Lib.hid (HG7.out.trans hg8)
            clear hr8 hg8 HR7 HVR7 HG7
            go_wp2_with fail
            refine (rtimes_any v8 vr ((accAt R b n + blk b n) % PP) (Nat.lt_trans (Nat.mod_lt _ (by decide)) HPP.out) rb HRL.out w8 HR8.out HVR8.out).mono ?_
            rintro e w9 ⟨v9, rfl, hr9, hg9⟩
            rw [modmul, HR.out, ← HAC.out] at hr9
            have HR9 := Lib.hid hr9
            have HVR9 := Lib.hid (HVR8.out.grown0 hg9)
            have HG9 := Lib.hid (HG8.out.trans hg9)
            clear hr9 hg9 HR8 HVR8 HG8
            go_wp2
            go_roundw
            case rel =>
              have h16 := HN.out
              exact ⟨n + 1, by omega, congrArg (Value.int .i64) (by omega), HR9.out, HVR9.out, HG9.out⟩
            case measure => simp [intOf]; omega
    · have hnn : n = (m + 15) / 16 := by have := HN.out; omega
      rw [hnn] at HA
      have hdec : decide ((N : Int) < (m : Int)) = false := by simp; omega
      generalize hT : accAt R b ((m + 15) / 16) = T at *
      have HTL := Lib.hid (show T < 256 ^ 18 by rw [← hT]; exact Nat.lt_trans (accAt_lt R b ((m + 15) / 16)) (by decide))
      clear hnn hn hT
      obtain ⟨W0, hW0⟩ : ∃ W0, W0 = wr := ⟨_, rfl⟩
      subst hW0
      go_wp2
      go_loopw [10, 11] (fun u q W => ∃ i : Nat, i ≤ 16 ∧ q = .int .i64 ((16 + i : Nat) : Int) ∧ W.ownsRow W0.heap.size 3 1 u i (intsV (byt ((key.drop 16).take i))) ∧ W0.grownBy W none) (fun _ q _ => 33 - (intOf q).toNat)
      case atStart => exact ⟨0, Nat.zero_le _, rfl, World.ownsRow_nil _ _ _ _, grown_refl _ _⟩
      case round =>
        obtain ⟨i, hi, rfl, ho, hg⟩ := hrel
        have HO := Lib.hid ho
        have HI := Lib.hid hg
        clear ho hg
        have hdl : (key.drop 16).length = 16 := by rw [List.length_drop, HK.out]
        by_cases hil : i < 16
        · have hc0 := HC1.out wr (HG.out.trans HI.out) (16 + i) (by omega)
          have hm1 := byt_more (key.drop 16) i (by rw [hdl]; exact hil)
          rw [show (key.drop 16).getD i 0 = key.getD (16 + i) 0 by simp [List.getD_eq_getElem?_getD]] at hm1
          have HM1 := Lib.hid hm1
          have hx8 := UInt8.toNat_lt (key.getD (16 + i) 0)
          generalize (key.getD (16 + i) 0).toNat = x at *
          clear hm1 hdl
          generalize hj : 16 + i = j at *
          have hj1 : decide ((j : Int) < 32) = true := by simp; omega
          go_wp2_with (at_builtin; refine wpList_append_ints _ rfl _ _ rfl W0.heap.size _ i _ rfl (HO.out.alloc _) _ [x] rfl (Rd.int1 wr x) ?_ ?_ ?_)
          · simp; omega
          · have := HI.out.size; simp; omega
          intro v' w' ho hg hat
          have HO' := Lib.hid ho
          have HI' := Lib.hid (grown_new (grown_alloc HI.out _) hg (fun b hb => (HO.out.lt b hb).1))
          clear ho hg hat
          go_wp2
          go_roundw
          case rel =>
            refine ⟨i + 1, by omega, congrArg (Value.int .i64) (by omega), ?_, HI'.out⟩
            rw [HM1.out, intsV_app]
            exact HO'.out
          case measure => simp [intOf]; omega
        · obtain rfl : i = 16 := by omega
          rw [List.take_of_length_le (by rw [hdl]; exact Nat.le_refl _)] at HO
          have HS := Lib.hid (Rd.of_own HO.out)
          have HDS := Lib.hid (show Dg (byt (key.drop 16)) (le (key.drop 16)) from dg_list _ (byt_lt _))
          have HA6 := Lib.hid (HA.out.grown0 HI.out)
          have HG6 := Lib.hid (HG.out.trans HI.out)
          generalize le (key.drop 16) = S at *
          clear hi hil hdl
          go_wp2_with fail
          refine (add_any _ _ (digs 256 18 T) (byt (key.drop 16)) T S 16 (by decide) wr HA6.out HS.out (dg_digs 18 _ HTL.out) HDS.out).mono ?_
          rintro e w7 ⟨v7, rfl, hr7, hg7⟩
          obtain ⟨A7, c7, rfl⟩ := hr7.form
          rw [intsV_len, digs_len] at hr7 ⊢
          have HR7 := Lib.hid hr7
          have HG7 := Lib.hid (HG6.out.trans hg7)
          clear hr7 hg7 HA6 HG6 HS HO HI
          go_wp2
          go_loopw [13, 14] (fun u q W => ∃ i : Nat, i ≤ 16 ∧ q = .int .i64 i ∧ W.ownsRow w7.heap.size 5 1 u i (bytesV (leB i (T + S))) ∧ w7.grownBy W none) (fun _ q _ => 17 - (intOf q).toNat)
          case atStart => exact ⟨0, Nat.zero_le _, rfl, World.ownsRow_nil _ _ _ _, grown_refl _ _⟩
          case round =>
            obtain ⟨i, hi, rfl, ho, hg⟩ := hrel
            have HO := Lib.hid ho
            have HI := Lib.hid hg
            clear ho hg
            by_cases hil : i < 16
            · obtain ⟨ad7, rfl, hc0⟩ := (HR7.out.grown0 HI.out).num i (by rw [digs_len]; exact hil)
              rw [digs_at 256 16 _ i hil] at hc0
              have HM1 := Lib.hid (leB_more i (T + S))
              have hx8 : (T + S) / 256 ^ i % 256 < 256 := Nat.mod_lt _ (by decide)
              generalize (T + S) / 256 ^ i % 256 = x at *
              have HX := Lib.hid (show (x : Int) = ((UInt8.ofNat x).toNat : Int) by rw [UInt8.toNat_ofNat']; omega)
              have HB1 := Lib.hid (show Rd (wr.alloc (.cells #[.int .u8 (x : Int)] 5)) (.slice (some ⟨wr.heap.size, 0, none⟩) 1 1) (bytesV [UInt8.ofNat x]) by rw [HX.out]; exact Rd.byte1 wr _)
              have hd : decide ((i : Int) < 16) = true := by simp; omega
              go_wp2_with (at_builtin; refine wpList_append_bytes _ rfl _ _ rfl w7.heap.size _ i _ rfl (HO.out.alloc _) _ [UInt8.ofNat x] rfl HB1.out ?_ ?_ ?_)
              · simp; omega
              · have := HI.out.size; simp; omega
              intro v' w' ho hg hat
              have HO' := Lib.hid ho
              have HI' := Lib.hid (grown_new (grown_alloc HI.out _) hg (fun b hb => (HO.out.lt b hb).1))
              clear ho hg hat
              go_wp2
              go_roundw
              case rel =>
                refine ⟨i + 1, by omega, by go_num, ?_, HI'.out⟩
                rw [HM1.out, bytesV_app]
                exact HO'.out
              case measure => simp [intOf]; omega
            · obtain rfl : i = 16 := by omega
              clear hi hil
              go_wp2
              go_ret
              exact ⟨_, rfl, by rw [HTAG.out]; exact Rd.of_own HO.out, HG7.out.trans HI.out⟩
end Go.Proofs.Ytnekdjejbobmoaa
