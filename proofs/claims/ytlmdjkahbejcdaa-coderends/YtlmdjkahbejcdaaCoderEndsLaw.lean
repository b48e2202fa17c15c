/-
  The law CoderEnds, walked.
-/
import Derived.Test.YtlmdjkahbejcdaaCodNil
import Derived.Test.YtlmdjkahbejcdaaCodDo
namespace Go.Proofs.Ytlmdjkahbejcdaa
open Go.RowKit

set_option maxHeartbeats 8000000 in
theorem coderEnds_walk (A : Option Addr) (len c : Nat) (l : List Dos) (w : World) (hr : RdD w (.slice A len c) l) (hf : ∀ d ∈ l, FitD d) :
    Calls Try.prog 8 #[.slice A len c] w (Awake w) := by
  by_cases hbig : 300 < len
  · have hd : decide (300 < (len : Int)) = true := by simp; omega
    clear hr
    go_enter Try.func8, Try.ntmps8
    go_wp2_with (go_at_call 10; refine (awake_any _).mono ?_; rintro e w9 ⟨rfl, hg9⟩)
    go_ret
    exact ⟨rfl, hg9⟩
  have hd : decide (300 < (len : Int)) = false := by simp; omega
  have HRD := Lib.hid hr
  have HLN := Lib.hid hr.len.1
  have HF := Lib.hid hf
  have hle : len ≤ 300 := by omega
  clear hr hbig hf
  go_enter Try.func8, Try.ntmps8
  go_wp2_with fail
  refine (begin_any w).mono ?_
  rintro e w1 ⟨g, rfl, ht1, hge1, hg1⟩
  have H1 := Lib.hid (And.intro ht1 (And.intro hge1 hg1))
  clear ht1 hge1 hg1
  go_wp2_with fail
  refine (chances_any 8 8 (by decide) w1).mono ?_
  rintro e w2 ⟨gc, t, rfl, hr2, hge2, hg2⟩
  have HS := Lib.hid (show Wt w2 g none beginS ∧ Row w2 gc t (chV (List.replicate 8 1024)) ∧ w.grownBy w2 none from ⟨H1.out.1.grown0 hg2, hr2, H1.out.2.2.trans hg2⟩)
  have HN := Lib.hid (show gc ≠ g ∧ w.heap.size ≤ g ∧ w.heap.size ≤ gc from ⟨fun e => by have := H1.out.1.lt; omega, H1.out.2.1, Nat.le_trans H1.out.2.2.size hge2⟩)
  clear hr2 hge2 hg2 H1
  go_wp2
  go_loopw [21] (fun i W => ∃ (k : Nat) (S : Cst) (L : List Nat) (vb : Option Nat), k ≤ len ∧ i = .int .i64 k ∧ (Okc S ∧ S.out.length ≤ k ∧ Okl L ∧ L.length = 8) ∧ (Wt W g vb S ∧ Row W gc t (chV L) ∧ vb ≠ some gc ∧ (∀ b, vb = some b → w.heap.size ≤ b) ∧ w.grownBy W none)) (fun i _ => len - (intOf i).toNat)
  case atStart => exact ⟨0, beginS, _, none, Nat.zero_le _, rfl, ⟨begin_ok, Nat.le_refl _, okl_first 8, rfl⟩, HS.out.1, HS.out.2.1, by simp, by simp, HS.out.2.2⟩
  case round =>
    obtain ⟨k, S, L, vb, hk, rfl, ho, hh⟩ := hrel
    have HO := Lib.hid ho
    have HH := Lib.hid hh
    clear ho hh HS
    by_cases hlt : k < len
    · have hdk : decide ((k : Int) < (len : Int)) = true := by simp; omega
      obtain ⟨ad, d, rfl, hdl, c0, c1, c2, c3⟩ := (HRD.out.grown0 HH.out.2.2.2.2).step (show k < l.length by rw [HLN.out]; exact hlt)
      have HFD := Lib.hid (HF.out d (by rw [← hdl]; exact List.getElem_mem _))
      obtain ⟨vv, kv, nv, bv⟩ := d
      simp only at c0 c1 c2 c3
      obtain ⟨gd, hgd⟩ : ∃ gd, wr.heap.size = gd := ⟨_, rfl⟩
      obtain ⟨W3, hW3⟩ : ∃ W, wr.alloc (.cells #[.int .i64 vv, .int .i64 kv, .int .i64 nv, .int .i64 bv] 35) = W := ⟨_, rfl⟩
      have hg3 : wr.grownBy W3 none := by rw [← hW3]; exact grown_alloc (grown_refl _ _) _
      have HD3 := Lib.hid (show Row W3 gd 35 [.int .i64 vv, .int .i64 kv, .int .i64 nv, .int .i64 bv] by rw [← hW3]; exact Row.newAt wr _ [.int .i64 vv, .int .i64 kv, .int .i64 nv, .int .i64 bv] hgd)
      have H3 := Lib.hid (show Wt W3 g vb S ∧ Row W3 gc t (chV L) ∧ vb ≠ some gc ∧ (∀ b, vb = some b → w.heap.size ≤ b) ∧ w.grownBy W3 none from ⟨HH.out.1.grown0 hg3, HH.out.2.1.grown0 hg3, HH.out.2.2.1, HH.out.2.2.2.1, HH.out.2.2.2.2.trans hg3⟩)
      have e10 := HD3.out.cell (j := 1) rfl
      have e20 := HD3.out.cell (j := 2) rfl
      clear hg3 hdl
      have hk300 : k < 300 := by omega
      by_cases hkk : 0 ≤ kv ∧ kv < 8
      · obtain ⟨j, rfl⟩ : ∃ j : Nat, kv = j := ⟨kv.toNat, by omega⟩
        have hj8 : j < 8 := by omega
        have d0 : decide (0 ≤ (j : Int)) = true := by simp
        have hji : (j : Int) < 8 := by omega
        have hjj : (j : Int) < ((8 : Nat) : Int) := by omega
        have hj0 : 0 ≤ (j : Int) := by omega
        have d1 : decide ((j : Int) < 8) = true := by simp; omega
        have d1' : decide (j < 8) = true := by simp; omega
        have hand := i64_and1 nv
        have e1 : W3.drew.cell? ⟨gd, 1, none⟩ = some (.int .i64 (j : Int)) := HD3.out.cell (j := 1) rfl
        have e2 : W3.drew.cell? ⟨gd, 2, none⟩ = some (.int .i64 nv) := HD3.out.cell (j := 2) rfl
        clear hkk
        go_wp2
        refine wp_region_still_tail 8 (by kernel_rfl) (by kernel_rfl) ?_
        change wpStill _ _ W3.drew (fun a' => wpList _ _ _ _ a' W3.drew) _ _
        generalize hW4 : W3.drew = W4 at *
        simp only [List.take_succ_cons, List.take_zero, List.drop_succ_cons, List.drop_zero]
        repeat still_step
        refine wpStill_nil ?_
        go_wp2_with fail
        have H4 : Wt W4 g vb S ∧ Row W4 gc t (chV L) ∧ wr.heap.size ≤ W4.heap.size ∧ w.grownBy W4 none := by
          rw [← hW4]
          exact ⟨H3.out.1, H3.out.2.1, by rw [← hW3]; simp, grown_drew H3.out.2.2.2.2⟩
        have H4 := Lib.hid H4
        have hjL : j < L.length := by rw [HO.out.2.2.2]; exact hj8
        have HB := Lib.hid (bit_at g vb S gc j t L (nv % 2) W4 H4.out.1 HO.out.1 (by have := HO.out.2.1; omega) H4.out.2.1 hjL HO.out.2.2.1 ⟨HN.out.1, HH.out.2.2.1⟩)
        have HBO := Lib.hid (bitS_ok (decide (nv % 2 ≠ 0)) HO.out.1 HO.out.2.2.1 hjL)
        have HBL := Lib.hid (show (bitS S L j (decide (nv % 2 ≠ 0))).1.out.length ≤ k + 1 ∧ (bitS S L j (decide (nv % 2 ≠ 0))).2.length = 8 from ⟨by have := putS_len S (S.width / 2048 * L.getD j 0) (decide (nv % 2 ≠ 0)); have := HO.out.2.1; show (putS _ _ _).out.length ≤ _; omega, by rw [bitS_len]; exact HO.out.2.2.2⟩)
        generalize bitS S L j (decide (nv % 2 ≠ 0)) = SL at *
        clear hW4 hW3 hand hjL
        refine HB.out.mono ?_
        rintro e w5 ⟨rfl, vb5, ht5, hr5, hn5⟩
        have H5 := Lib.hid (show Wt w5 g vb5 SL.1 ∧ Row w5 gc t (chV SL.2) ∧ vb5 ≠ some gc ∧ (∀ b, vb5 = some b → w.heap.size ≤ b) ∧ w.grownBy w5 none from ⟨ht5, hr5, by
          rcases hn5.row with e | ⟨b, e, hb⟩
          · rw [e]; exact HH.out.2.2.1
          · rw [e]; intro e2; cases e2; have := H4.out.2.1.lt; omega, fun b hb => by
          rcases hn5.row with e | ⟨b', e, hb'⟩
          · rw [e] at hb; exact HH.out.2.2.2.1 b hb
          · rw [e] at hb; cases hb; exact Nat.le_trans H4.out.2.2.2.size hb', Wn.new H4.out.2.2.2 hn5 (fun b hb => by have := HN.out; simp at hb; omega) HH.out.2.2.2.1⟩)
        clear ht5 hr5 hn5 e1 e2 e10 e20
        go_wp2
        go_roundw
        case rel => exact ⟨k + 1, SL.1, SL.2, vb5, by omega, by go_num, ⟨HBO.out.1, HBL.out.1, HBO.out.2, HBL.out.2⟩, H5.out⟩
        case measure => simp only [intOf]; omega
      · have d01 : (decide (0 ≤ kv) && decide (kv < 8)) = false := by
          by_cases h0 : 0 ≤ kv
          · have : ¬ kv < 8 := fun h => hkk ⟨h0, h⟩
            simp [this]
          · simp [h0]
        by_cases h0 : 0 ≤ kv
        · have d0 : decide (0 ≤ kv) = true := by simpa using h0
          have d1 : decide (kv < 8) = false := by have : ¬ kv < 8 := fun h => hkk ⟨h0, h⟩; simpa using this
          clear hkk h0 d01
          go_wp2
          go_roundw
          case rel => exact ⟨k + 1, S, L, vb, by omega, by go_num, ⟨HO.out.1, by have := HO.out.2.1; omega, HO.out.2.2⟩, H3.out⟩
          case measure => simp only [intOf]; omega
        · have d0 : decide (0 ≤ kv) = false := by simpa using h0
          clear hkk h0 d01
          go_wp2
          go_roundw
          case rel => exact ⟨k + 1, S, L, vb, by omega, by go_num, ⟨HO.out.1, by have := HO.out.2.1; omega, HO.out.2.2⟩, H3.out⟩
          case measure => simp only [intOf]; omega
    · obtain rfl : k = len := by omega
      have hdk : decide ((k : Int) < (k : Int)) = false := by simp
      have HE := Lib.hid (end_at g vb S wr HH.out.1 HO.out.1 (by have := HO.out.2.1; omega))
      have HEL := Lib.hid (endS_len S)
      generalize endS S = E at *
      have hlt0 : 0 < L.length := by rw [HO.out.2.2.2]; decide
      obtain ⟨q, hq⟩ : ∃ q, q = L.getD 0 0 := ⟨_, rfl⟩
      have HC := Lib.hid (chV_at L 0 hlt0)
      have HOF := Lib.hid (fun W => of_any (L.getD 0 0) (by have := (HO.out.2.2.1.at_ hlt0).2; omega) W)
      rw [← hq] at HC HOF
      obtain ⟨z, hz⟩ : ∃ z : Int, z = (q : Int) - 1024 := ⟨_, rfl⟩
      rw [← hz] at HC HOF
      clear hq hz hlt0
      go_wp2_with fail
      refine HE.out.mono ?_
      rintro e w3 ⟨u, rfl, ho3, vb3, ht3, hn3⟩
      obtain ⟨A3, c3, rfl⟩ := own_form ho3
      have hr3 := HH.out.2.1.wn hn3 (by simpa using HN.out.1) (fun e => HH.out.2.2.1 e.symm)
      have hc3 := hr3.cell HC.out
      have H3 := Lib.hid (show Rd w3 (.slice A3 E.length c3) (bytesV E) ∧ Wt w3 g vb3 ⟨E, 0, 0⟩ ∧ Row w3 gc t (chV L) ∧ w.grownBy w3 none from ⟨Rd.of_own ho3, ht3, hr3, Wn.new HH.out.2.2.2.2 hn3 (fun b hb => by have := HN.out; simp at hb; omega) HH.out.2.2.2.1⟩)
      clear ho3 ht3 hn3 hr3 HE HH
      go_wp2_with fail
      refine (HOF.out w3).mono ?_
      rintro e w4 ⟨rfl, hg4⟩
      have H4 := Lib.hid (show Rd w4 (.slice A3 E.length c3) (bytesV E) ∧ Wt w4 g vb3 ⟨E, 0, 0⟩ ∧ Row w4 gc t (chV L) ∧ w.grownBy w4 none from ⟨H3.out.1.grown0 hg4, H3.out.2.1.grown0 hg4, H3.out.2.2.1.grown0 hg4, H3.out.2.2.2.trans hg4⟩)
      clear hg4 hc3 H3
      go_wp2_with fail
      refine (bit_done g vb3 _ _ 1 w4 H4.out.2.1 rfl).mono ?_
      rintro e w5 ⟨rfl, hw5⟩
      obtain rfl := hw5.symm
      go_wp2_with fail
      refine (even_done g vb3 _ 5 3 w4 H4.out.2.1 rfl).mono ?_
      rintro e w5 ⟨rfl, hw5⟩
      obtain rfl := hw5.symm
      go_wp2_with fail
      refine (end_done g vb3 _ w4 H4.out.2.1 rfl (by have := HEL.out; have := HO.out.2.1; show E.length ≤ _; omega)).mono ?_
      rintro e w5 ⟨u5, rfl, ho5, hg5⟩
      obtain ⟨A5, c5, rfl⟩ := own_form ho5
      have hs3 := run_str (H4.out.1.grown0 hg5)
      have hs5 := run_str (Rd.of_own ho5)
      have hc5 := (H4.out.2.2.1.grown0 hg5).cell HC.out
      have H5 := Lib.hid (H4.out.2.2.2.trans hg5)
      have hE4 : decide ((4 : Int) ≤ (E.length : Int)) = true := by have := HEL.out; simp; omega
      have hE4' : decide (4 ≤ E.length) = true := by have := HEL.out; simp; omega
      clear ho5 hg5 H4
      go_wp2_with fail
      refine (HOF.out w5).mono ?_
      rintro e w6 ⟨rfl, hg6⟩
      have H6 := Lib.hid (H5.out.trans hg6)
      clear hg6 hs3 hs5 hc5
      go_wp2_with fail
      refine (awake_any w6).mono ?_
      rintro e w7 ⟨rfl, hg7⟩
      go_wp2
      go_ret
      exact ⟨rfl, H6.out.trans hg7⟩
end Go.Proofs.Ytlmdjkahbejcdaa
