/-
  The law RingWhole, walked.
-/
import Derived.Test.YtnbeakpmglefmaaRngOps
import Derived.Test.YtnbeakpmglefmaaRngIIter
import Derived.Test.YtnbeakpmglefmaaResBool
namespace Go.Proofs.Ytnbeakpmglefmaa
open Go.RowKit
attribute [local go_sem] Oper.semAt_some

theorem RingI.Ring.own {w w' : World} {g B : Nat} {vb : Option Nat} {R : Nat} {L : List Int} {row : Option Nat} (h : RingI.Ring w g vb R L) (hlt : g < B ∧ ∀ b, vb = some b → b < B) (hg : w.grownBy w' row) (hr : ∀ r, row = some r → B ≤ r ∧ ∃ o : Obj, w.heap[r]? = some o ∧ o.isCells = false) : RingI.Ring w' g vb R L :=
  h.keep (hg.block g h.lt (fun e => by have := (hr g e.symm).1; have := hlt.1; omega)) (fun b hb => hg.block b (h.row_lt b hb) (fun e => by have := (hr b e.symm).1; have := hlt.2 b hb; omega))
/-- What lies there between two rounds. -/
structure WB (w : World) (G gk gq g : Nat) (vb : Option Nat) (R : Nat) (A : Option Addr) (n c : Nat) (l : List Int) (k : Nat) (W : World) : Prop where
  bx : Row W G 22 [.slice A n c]
  rr : Row W (G + 1) 4 [.bool false]
  kr : Row W gk 3 [.int .i64 (k : Int)]
  ap : Row W gq 23 [.pointer (some ⟨g, 0, none⟩)]
  ring : RingI.Ring W g vb R l
  grow : w.grownBy W none
theorem WB.own {w W W' : World} {G gk gq g B : Nat} {vb : Option Nat} {R : Nat} {A : Option Addr} {n c : Nat} {l : List Int} {k : Nat} {row : Option Nat} (h : WB w G gk gq g vb R A n c l k W) (hB : w.heap.size ≤ B) (hlt : g < B ∧ ∀ b, vb = some b → b < B) (hg : W.grownBy W' row) (hr : ∀ r, row = some r → B ≤ r ∧ ∃ o : Obj, W.heap[r]? = some o ∧ o.isCells = false) : WB w G gk gq g vb R A n c l k W' :=
  ⟨h.bx.own hg hr, h.rr.own hg hr, h.kr.own hg hr, h.ap.own hg hr, h.ring.own hlt hg hr, grown_ownFrom h.grow hB hg hr⟩

set_option maxHeartbeats 8000000 in
theorem ringWhole_walk (A : Option Addr) (n c : Nat) (l : List Int) (m : Nat) (hm8 : m < 256) (w : World) (hr : Rd w (.slice A n c) (RingI.rowV l)) :
    Calls Try.prog 8 #[.slice A n c, .int .u8 (m : Int)] w (Awake w) := by
  have hl : l.length = n := by have := hr.len.1; rwa [RingI.rowV_len] at this
  generalize hG : w.heap.size = G
  obtain ⟨W0, hW0⟩ : ∃ W, (w.alloc (.cells #[.slice A n c] 22)).alloc (.cells #[.bool false] 4) = W := ⟨_, rfl⟩
  have BX := Lib.hid (show Row W0 G 22 [.slice A n c] by rw [← hW0]; exact (Row.newAt _ _ [.slice A n c] hG).alloc _)
  have RR := Lib.hid (show Row W0 (G + 1) 4 [.bool false] by rw [← hW0]; exact Row.newAt _ _ [.bool false] (by simp [hG]))
  have HGR := Lib.hid (show w.grownBy W0 none by rw [← hW0]; exact grown_alloc (grown_alloc (grown_refl _ _) _) _)
  have HG := Lib.hid hG
  have HL := Lib.hid hl
  have HRD := Lib.hid hr
  have c0 := BX.out.cell (j := 0) rfl
  refine callsIn_wide.1 (callsIn_of_wp_marks (n := 0) Try.func8 rfl trivial (wpIn_wide.2 ?_) rfl)
  simp only [Try.ntmps8, List.size_toArray, List.length_cons, List.length_nil, Nat.reduceAdd, Nat.reduceSub, Array.replicate_succ, Array.replicate_zero, List.push_toArray, List.append_toArray, List.nil_append, List.cons_append]
  by_cases h200 : 200 < n
  · have hdec : decide (200 < (n : Int)) = true := by simp; omega
    clear hr hl h200
    go_wp2_with (go_at_call 11; refine (awake_any _).mono ?_; rintro e w9 ⟨rfl, hg9⟩; have hrr9 := RR.out.grown0 hg9; have crr := hrr9.cell (j := 0) rfl; have frr := hrr9.frozen 0)
    exact ⟨.bool true, results_bool Try.results8 (G + 1) rfl (hrr9.set 0 (.bool true)), rfl, grown_own (HGR.out.trans hg9) (grown_set w9 (G + 1) 0 (.bool true)) (by have := HG.out; omega)⟩
  have hdec : decide (200 < (n : Int)) = false := by simp; omega
  have hn : n ≤ 200 := by omega
  obtain ⟨R, hR⟩ : ∃ R, n + m = R := ⟨_, rfl⟩
  have hRi : (n : Int) + (m : Int) = (R : Int) := by omega
  have HR := Lib.hid (show n ≤ R ∧ R ≤ 65536 by omega)
  clear hr hl h200 hR
  go_wp2_with fail
  clear hW0 hG
  refine (RingI.new_at R HR.out.2 W0).mono ?_
  rintro e w1 ⟨g, rfl, hr1, hge, hg1⟩
  have hrl := RR.out.lt
  have HRG := Lib.hid hr1
  have HG1 := Lib.hid (show w.grownBy w1 none ∧ G + 1 < g from ⟨HGR.out.trans hg1, by omega⟩)
  have BX1 := Lib.hid (BX.out.grown0 hg1)
  have RR1 := Lib.hid (RR.out.grown0 hg1)
  have c1 := BX1.out.cell (j := 0) rfl
  clear hr1 hge hg1 hrl c0 HGR BX RR
  go_wp2
  go_loopw [25] (fun i W => ∃ (k : Nat) (vb : Option Nat), k ≤ n ∧ i = .int .i64 k ∧ RingI.Ring W g vb R (l.take k) ∧ Went w1 g none W vb) (fun i _ => n - (intOf i).toNat)
  case atStart => exact ⟨0, _, Nat.zero_le _, rfl, by simpa using HRG.out, Went.refl _ _ _⟩
  case round =>
  obtain ⟨k, vb, hk, rfl, hring, hwent⟩ := hrel
  have hgw : w.grownBy wr none := hwent.new HG1.out.1 (by have := HG1.out.2; have := HG.out; omega) (fun b e => by cases e)
  by_cases hlt : k < n
  · have hkl : k < l.length := by rw [HL.out]; exact hlt
    obtain ⟨ad, rfl, hcell⟩ := num_at (HRD.out.grown0 hgw) hkl
    have HP := Lib.hid (RingI.put_at g vb R (l.take k) l[k] wr hring HR.out.2 (by simp; omega))
    rw [show outIn 0 R (l.take k) l[k] = (0, false) by unfold outIn; rw [if_pos (by have := HR.out.1; rw [List.length_take]; omega)]] at HP
    have HWT := Lib.hid hwent
    clear hring hwent hgw hk c1
    go_wp2_with fail
    refine HP.out.mono ?_
    clear HP
    rintro e w2 ⟨vb2, rfl, hr2, hw2⟩
    rw [take_next _ _ hkl] at hr2
    simp only [RingI.pairV]
    go_wp2
    go_roundw
    case rel => exact ⟨k + 1, vb2, by omega, rfl, hr2, HWT.out.trans hw2⟩
    case measure => simp only [intOf]; omega
  obtain rfl : k = n := by omega
  rw [List.take_of_length_le (by rw [HL.out]; exact Nat.le_refl _)] at hring
  clear c1
  obtain ⟨gk, hgk⟩ : ∃ x, wr.heap.size = x := ⟨_, rfl⟩
  have HRI := Lib.hid hring
  have HLO := Lib.hid (show G + 1 < g ∧ g < gk ∧ ∀ b, vb = some b → b < gk ∧ b ≠ G ∧ b ≠ G + 1 from ⟨HG1.out.2, by have := hring.lt; omega, fun b hb => ⟨by have := hring.row_lt b hb; omega, by
    rcases hwent.row with e | ⟨b', e, hb'⟩
    · rw [e] at hb; cases hb
    · rw [e] at hb; cases hb; have := RR1.out.lt; omega⟩⟩)
  have BX2 := Lib.hid (BX1.out.went hwent ⟨by have := HG1.out.2; omega, by simp⟩)
  have RR2 := Lib.hid (RR1.out.went hwent ⟨by have := HG1.out.2; omega, by simp⟩)
  have HGW := Lib.hid hgw
  clear hring hwent hgw hk hlt BX1 RR1 HRG HG1
  go_wp2_with fail
  have hga := grown_alloc (grown_refl wr none) (.cells #[.int .i64 0] 3)
  have hka : Row (wr.alloc (.cells #[.int .i64 0] 3)) gk 3 [.int .i64 ((0 : Nat) : Int)] := Row.newAt wr _ [.int .i64 0] hgk
  have hsz : (wr.alloc (.cells #[.int .i64 0] 3)).heap.size = gk + 1 := by rw [World.size_alloc, hgk]
  generalize wr.alloc (.cells #[.int .i64 0] 3) = w3 at *
  refine (RingI.old_any (some ⟨g, 0, none⟩) w3).mono ?_
  rintro e w4 ⟨gq, rfl, hq, hg4, hgq⟩
  have hgl := hga.trans hg4
  have HWB := Lib.hid (show WB w G gk gq g vb R A k c l 0 w4 from ⟨BX2.out.grown0 hgl, RR2.out.grown0 hgl, hka.grown0 hg4, hq, HRI.out.grown0 hgl, HGW.out.trans hgl⟩)
  have HQ := Lib.hid (show gk < gq ∧ gk < w4.heap.size ∧ w.heap.size ≤ w4.heap.size by have := hg4.size; have := HGW.out.size; refine ⟨by omega, by omega, by omega⟩)
  have HT := Lib.hid (show ∀ W, RingI.Ring W g vb R l → RingI.Tells (.pointer (some ⟨g, 0, none⟩)) k (fun j => l.getD (k - 1 - j) 0) W from fun W h => by
    have := RingI.tells_at g vb R l W h HR.out.2 (by rw [HL.out]; omega)
    rw [HL.out, Nat.min_eq_left HR.out.1] at this
    exact this)
  clear hga hka hsz hq hg4 hgq hgl BX2 RR2 HRI HGW hgk
  unfold RingI.oldV
  have heq : (binOp .eql 47 (.func (.func 33) #[] #[.pointer (some ⟨gq, 0, none⟩)]) .nilFunc).run Try.prog w4 = .ok (.bool false) w4 := by kernel_rfl
  go_wp2_with fail
  clear heq
  have hlt4 : g < w4.heap.size ∧ ∀ b, vb = some b → b < w4.heap.size := ⟨by have := HLO.out.2.1; have := HQ.out.2.1; omega, fun b hb => by have := (HLO.out.2.2 b hb).1; have := HQ.out.2.1; omega⟩
  have HLT4 := Lib.hid hlt4
  clear hlt4
  refine wp_range_upto1 rfl (enters_at Try.func33 (by kernel_rfl) (by kernel_rfl)) (RingI.oldF gq (some ⟨g, 0, none⟩) k (fun j => l.getD (k - 1 - j) 0) (by omega)) (fun _ => rfl)
    (fun j W => j ≤ k ∧ WB w G gk gq g vb R A k c l j W) (fun _ _ => False) (fun j W h => ⟨h.2.ap, HT.out W h.2.ring⟩) (fun j W W' row h hg hr => ⟨h.1, h.2.own HQ.out.2.2 HLT4.out hg hr⟩) (fun _ _ _ _ h _ _ => h.elim) ⟨Nat.zero_le _, HWB.out⟩
    (fun j t => (t.setIfInBounds 42 (.int .i64 (l.getD (k - 1 - (k - 1 - j)) 0))).setIfInBounds 12 (.int .i64 (l.getD (k - 1 - (k - 1 - j)) 0))) ?assign ?body ?done (fun _ _ _ _ h _ => h.elim)
  case assign =>
    intro lp j W K hj hI hK
    clear hI
    generalize l.getD (k - 1 - (k - 1 - j)) 0 = x at *
    simp only [List.setIfInBounds_toArray, List.set_cons_succ, List.set_cons_zero] at hK
    have HK := Lib.hid hK
    clear hK
    refine region_round (by kernel_rfl) (fun _ _ h => h) ?_
    go_simp
    go_wp2
    exact HK.out
  case body =>
    rintro lp j W hj ⟨_, hI⟩
    have hjl : j < l.length := by rw [HL.out]; exact hj
    obtain ⟨ad, rfl, hcell⟩ := num_at (HRD.out.grown0 hI.grow) hjl
    rw [show l.getD (k - 1 - (k - 1 - j)) 0 = l[j] by rw [show k - 1 - (k - 1 - j) = j by omega, List.getD_eq_getElem?_getD, List.getElem?_eq_getElem hjl]; rfl]
    generalize l[j] = x at *
    simp only [List.setIfInBounds_toArray, List.set_cons_succ, List.set_cons_zero]
    have HI := Lib.hid hI
    have HJ := Lib.hid hj
    have ck := hI.kr.cell (j := 0) rfl
    have fk := hI.kr.frozen 0
    have cb := hI.bx.cell (j := 0) rfl
    have hdec2 : decide (k ≤ j) = false := by simp; omega
    have hjk : (j : Int) < (k : Int) := by omega
    clear hI hjl hj
    gi_wp2
    have hi := HI.out
    have hj := HJ.out
    have hlo := HLO.out
    have hq := HQ.out
    have hgg := HG.out
    rw [show (j : Int) + 1 = ((j + 1 : Nat) : Int) by omega]
    have hs := grown_set W gk 0 (.int .i64 ((j + 1 : Nat) : Int))
    refine ⟨KeepsFrom.of_grownBy hs (fun r e => by cases e; exact hq.2.1), by omega, ?_⟩
    exact ⟨hi.bx.grown hs (by simp; omega), hi.rr.grown hs (by simp; omega), hi.kr.set 0 _, hi.ap.grown hs (by simp; omega), hi.ring.keep (hs.block g hi.ring.lt (by simp; omega)) (fun b hb => hs.block b (hi.ring.row_lt b hb) (by have := hlo.2.2 b hb; simp; omega)), grown_own hi.grow hs (by omega)⟩
  case done =>
    rintro D W hD ⟨_, hI⟩ hdef
    have HI := Lib.hid hI
    have HD := Lib.hid (And.intro hD hdef)
    have ck := hI.kr.cell (j := 0) rfl
    have cb := hI.bx.cell (j := 0) rfl
    have HDN := Lib.hid (show w.heap.size ≤ D ∧ G + 1 ≠ D by have := HLO.out; have := HQ.out; have := HG.out; omega)
    clear hI hD hdef
    go_wp2_with (go_at_call 11; refine (awake_any _).mono ?_; rintro e w9 ⟨rfl, hg9⟩; have hrr9 := HI.out.rr.grown0 hg9; have crr := hrr9.cell (j := 0) rfl; have frr := hrr9.frozen 0)
    have hs := grown_set w9 (G + 1) 0 (.bool true)
    have hd9 := held_grown HD.out.2 hg9
    have hd1 : (w9.setCell ⟨G + 1, 0, none⟩ (.bool true)).heap[D]? = some (.deferred (some [])) := (hs.block D (Array.getElem?_eq_some_iff.1 hd9).1 (by have := HDN.out.2; simp; omega)).trans hd9
    refine ⟨by simp, .inl ⟨_, _, rfl, run_takeDeferred hd1, ?_⟩⟩
    refine ⟨.bool true, ?_, rfl, grown_own (grown_own (HI.out.grow.trans hg9) hs (by have := HG.out; omega)) (grownBy_putObj' _ D _) HDN.out.1⟩
    exact results_bool Try.results8 (G + 1) rfl ((hrr9.set 0 (.bool true)).grown (grownBy_putObj' _ D _) (by have := HDN.out.2; simp; omega))
end Go.Proofs.Ytnbeakpmglefmaa
