/-
  The law RingGoes, walked.
-/
import Derived.Test.YtnbeakpmglefmaaRngAwake
import Derived.Test.YtnbeakpmglefmaaRngSIter
import Derived.Test.YtnbeakpmglefmaaLies
import Derived.Test.YtnbeakpmglefmaaResBool
import Derived.Test.YtnbeakpmglefmaaIntOps
namespace Go.Proofs.Ytnbeakpmglefmaa
open Go.RowKit
attribute [local go_sem] Oper.semAt_some

theorem RingS.Ring.own {w w' : World} {g B : Nat} {vb : Option Nat} {R : Nat} {L : List ByteArray} {row : Option Nat} (h : RingS.Ring w g vb R L) (hlt : g < B ∧ ∀ b, vb = some b → b < B) (hg : w.grownBy w' row) (hr : ∀ r, row = some r → B ≤ r ∧ ∃ o : Obj, w.heap[r]? = some o ∧ o.isCells = false) : RingS.Ring w' g vb R L :=
  h.keep (hg.block g h.lt (fun e => by have := (hr g e.symm).1; have := hlt.1; omega)) (fun b hb => hg.block b (h.row_lt b hb) (fun e => by have := (hr b e.symm).1; have := hlt.2 b hb; omega))
theorem str_at {w : World} {A : Option Addr} {n c k : Nat} {l : List ByteArray} (h : Rd w (.slice A n c) (RingS.rowV l)) (hk : k < l.length) : ∃ ad, A = some ad ∧ w.cell? (ad.add k) = some (.string l[k]) := by
  have hn := h.len.1
  rw [RingS.rowV_len] at hn
  obtain ⟨ad, u, rfl, hu, hc⟩ := h.cellAt (k := k) (by omega)
  rw [RingS.rowV_at l k l[k] (List.getElem?_eq_getElem hk)] at hu
  injection hu with hu
  subst hu
  exact ⟨ad, rfl, hc⟩
theorem takeS_next {T : Type} (l : List T) (k : Nat) (hk : k < l.length) : l.take k ++ [l[k]] = l.take (k + 1) := by
  rw [List.take_add_one, List.getElem?_eq_getElem hk]; rfl
theorem Saw.made {P : Program} {f : FuncId} {args : Array Value} {v : Value} {w : World} (h : Calls P f args w (Saw v w)) : Calls P f args w fun e w' => ∃ u, e = .returned u ∧ w.grownBy w' none ∧ Is v u w' :=
  h.mono fun _ _ x => ⟨v, x.grew.1, x.grew.2, rfl⟩
/-- What lies there in the loops: some rows, and the ring. -/
structure GB (w : World) (E : List (Nat × TypeId × List Value)) (g : Nat) (vb : Option Nat) (R : Nat) (l : List ByteArray) (W : World) : Prop where
  lies : Lies W E
  ring : RingS.Ring W g vb R l
  grow : w.grownBy W none
theorem GB.own {w W W' : World} {E : List (Nat × TypeId × List Value)} {g B : Nat} {vb : Option Nat} {R : Nat} {l : List ByteArray} {row : Option Nat} (h : GB w E g vb R l W) (hB : w.heap.size ≤ B) (hlt : g < B ∧ ∀ b, vb = some b → b < B) (hg : W.grownBy W' row) (hr : ∀ r, row = some r → B ≤ r ∧ ∃ o : Obj, W.heap[r]? = some o ∧ o.isCells = false) : GB w E g vb R l W' :=
  ⟨h.lies.own hg hr, h.ring.own hlt hg hr, grown_ownFrom h.grow hB hg hr⟩
theorem GB.grown0 {w W W' : World} {E : List (Nat × TypeId × List Value)} {g : Nat} {vb : Option Nat} {R : Nat} {l : List ByteArray} (h : GB w E g vb R l W) (hg : W.grownBy W' none) : GB w E g vb R l W' :=
  ⟨h.lies.grown0 hg, h.ring.grown0 hg, h.grow.trans hg⟩
/-- The first row's cell is turned. -/
theorem GB.set {w W : World} {x : Nat} {t : TypeId} {v : Value} {E : List (Nat × TypeId × List Value)} {g : Nat} {vb : Option Nat} {R : Nat} {l : List ByteArray} (h : GB w ((x, t, [v]) :: E) g vb R l W) (hw : w.heap.size ≤ x) (hne : ∀ p ∈ E, x ≠ p.1) (hg : x ≠ g) (hv : ∀ b, vb = some b → b ≠ x) (u : Value) :
    GB w ((x, t, [u]) :: E) g vb R l (W.setCell ⟨x, 0, none⟩ u) :=
  ⟨h.lies.set hne u, h.ring.keep ((grown_set W x 0 u).block g h.ring.lt (by simp; exact fun e => hg e.symm)) (fun b hb => (grown_set W x 0 u).block b (h.ring.row_lt b hb) (by simp; exact hv b hb)), grown_own h.grow (grown_set W x 0 u) hw⟩

set_option maxHeartbeats 8000000 in
theorem ringGoes_walk (r : Int) (A : Option Addr) (n c : Nat) (l : List ByteArray) (s : Nat) (hs8 : s < 256) (w : World) (hr : Rd w (.slice A n c) (RingS.rowV l)) :
    Calls Try.prog 5 #[.int .i64 r, .slice A n c, .int .u8 (s : Int)] w (Awake w) := by
  have hl : l.length = n := by have := hr.len.1; rwa [RingS.rowV_len] at this
  generalize hG : w.heap.size = G
  obtain ⟨W0, hW0⟩ : ∃ W, (w.alloc (.cells #[.int .u8 (s : Int)] 5)).alloc (.cells #[.bool false] 4) = W := ⟨_, rfl⟩
  have SX := Lib.hid (show Row W0 G 5 [.int .u8 (s : Int)] by rw [← hW0]; exact (Row.newAt _ _ [.int .u8 (s : Int)] hG).alloc _)
  have RR := Lib.hid (show Row W0 (G + 1) 4 [.bool false] by rw [← hW0]; exact Row.newAt _ _ [.bool false] (by simp [hG]))
  have HGR := Lib.hid (show w.grownBy W0 none by rw [← hW0]; exact grown_alloc (grown_alloc (grown_refl _ _) _) _)
  have HG := Lib.hid hG
  have HL := Lib.hid hl
  have HRD := Lib.hid hr
  have HN := Lib.hid (RingS.new_any r W0)
  refine callsIn_wide.1 (callsIn_of_wp_marks (n := 0) Try.func5 rfl trivial (wpIn_wide.2 ?_) rfl)
  simp only [Try.ntmps5, List.size_toArray, List.length_cons, List.length_nil, Nat.reduceAdd, Nat.reduceSub, Array.replicate_succ, Array.replicate_zero, List.push_toArray, List.append_toArray, List.nil_append, List.cons_append]
  clear hr hl
  go_wp2_with fail
  clear hW0 hG
  refine HN.out.mono ?_
  clear HN
  rintro e w1 (⟨R, g, rfl, hR, rfl, hr1, hge, hg1⟩ | ⟨hbad, rfl, rfl⟩)
  case inr =>
    have hga := grown_alloc (grown_refl w1 none) (.cells #[.pointer none] 33)
    have RRa := Lib.hid (RR.out.grown0 hga)
    have HGRa := Lib.hid (HGR.out.trans hga)
    clear hbad hga
    go_wp2_with (go_at_call 11; refine (awake_any _).mono ?_; rintro e w9 ⟨rfl, hg9⟩; have hrr9 := RRa.out.grown0 hg9; have crr := hrr9.cell (j := 0) rfl; have frr := hrr9.frozen 0)
    exact ⟨.bool true, results_bool Try.results5 (G + 1) rfl (hrr9.set 0 (.bool true)), rfl, grown_own (HGRa.out.trans hg9) (grown_set w9 (G + 1) 0 (.bool true)) (by have := HG.out; omega)⟩
  have hrl := RR.out.lt
  obtain ⟨gr, hgr⟩ : ∃ x, w1.heap.size = x := ⟨_, rfl⟩
  obtain ⟨W1, hW1⟩ : ∃ W, w1.alloc (.cells #[.pointer (some ⟨g, 0, none⟩)] 33) = W := ⟨_, rfl⟩
  have hga : w1.grownBy W1 none := by rw [← hW1]; exact grown_alloc (grown_refl w1 none) _
  have HRG := Lib.hid (hr1.grown0 hga)
  have HLO := Lib.hid (show G + 1 < g ∧ g < gr by have := hr1.lt; omega)
  have HG1 := Lib.hid (HGR.out.trans (hg1.trans hga))
  have HE := Lib.hid (show Lies W1 [(gr, 33, [.pointer (some ⟨g, 0, none⟩)]), (G, 5, [.int .u8 (s : Int)]), (G + 1, 4, [.bool false])] from
    .cons (by rw [← hW1]; exact Row.newAt w1 _ [.pointer (some ⟨g, 0, none⟩)] hgr) (.cons (SX.out.grown0 (hg1.trans hga)) (.cons (RR.out.grown0 (hg1.trans hga)) (.nil _))))
  have cr := HE.out.head.cell (j := 0) rfl
  clear hr1 hge hg1 hrl hga HGR SX RR
  by_cases h200 : 200 < n
  · have hdec : decide (200 < (n : Int)) = true := by simp; omega
    have cr' : (w1.alloc (.cells #[.pointer (some ⟨g, 0, none⟩)] 33)).cell? ⟨gr, 0, none⟩ = some (.pointer (some ⟨g, 0, none⟩)) := by rw [hW1]; exact cr
    clear h200
    go_wp2_with (go_at_call 11; refine (awake_any _).mono ?_; rintro e w9 ⟨rfl, hg9⟩; have hrr9 := (HE.out.tail.tail.head).grown0 hg9; have crr := hrr9.cell (j := 0) rfl; have frr := hrr9.frozen 0)
    exact ⟨.bool true, results_bool Try.results5 (G + 1) rfl (hrr9.set 0 (.bool true)), rfl, grown_own (HG1.out.trans hg9) (grown_set w9 (G + 1) 0 (.bool true)) (by have := HG.out; omega)⟩
  have hdec : decide (200 < (n : Int)) = false := by simp; omega
  have hn : n ≤ 200 := by omega
  clear h200
  go_wp2_with fail
  clear hW1 hgr cr
  go_loopw [32] (fun i W => ∃ (k : Nat) (vb : Option Nat), k ≤ n ∧ i = .int .i64 k ∧ RingS.Ring W g vb R (l.take k) ∧ Went W1 g none W vb) (fun i _ => n - (intOf i).toNat)
  case atStart => exact ⟨0, _, Nat.zero_le _, rfl, by simpa using HRG.out, Went.refl _ _ _⟩
  case round =>
  obtain ⟨k, vb, hk, rfl, hring, hwent⟩ := hrel
  have hgw : w.grownBy wr none := hwent.new HG1.out (by have := HLO.out; have := HG.out; omega) (fun b e => by cases e)
  by_cases hlt : k < n
  · have hkl : k < l.length := by rw [HL.out]; exact hlt
    obtain ⟨ad, rfl, hcell⟩ := str_at (HRD.out.grown0 hgw) hkl
    have cr := (HE.out.head.went hwent ⟨by have := HLO.out; omega, by simp⟩).cell (j := 0) rfl
    have HP := Lib.hid (RingS.put_at g vb R (l.take k) l[k] wr hring hR (by simp; omega))
    have HWT := Lib.hid hwent
    clear hring hwent hgw hk
    go_wp2_with fail
    refine HP.out.mono ?_
    clear HP cr
    rintro e w2 ⟨vb2, rfl, hr2, hw2⟩
    rw [takeS_next _ _ hkl] at hr2
    go_wp2
    go_roundw
    case rel => exact ⟨k + 1, vb2, by omega, rfl, hr2, HWT.out.trans hw2⟩
    case measure => simp only [intOf]; omega
  obtain rfl : k = n := by omega
  rw [List.take_of_length_le (by rw [HL.out]; exact Nat.le_refl _)] at hring
  obtain ⟨gk, hgk⟩ : ∃ x, wr.heap.size = x := ⟨_, rfl⟩
  have hga : wr.grownBy (wr.alloc (.cells #[.int .i64 0] 3)) none := grown_alloc (grown_refl wr none) _
  have hgrk : gr < gk := by have := HE.out.head.lt; have := hwent.size; omega
  have HLK := Lib.hid (show g < gk ∧ gr < gk ∧ G + 1 < g ∧ g < gr ∧ gk < (wr.alloc (.cells #[.int .i64 0] 3)).heap.size ∧ ∀ b, vb = some b → b < gk from ⟨by have := hring.lt; omega, hgrk, HLO.out.1, HLO.out.2, by rw [World.size_alloc]; omega, fun b hb => by have := hring.row_lt b hb; omega⟩)
  have HVG := Lib.hid (show ∀ b, vb = some b → b ≠ G ∧ b ≠ G + 1 ∧ b ≠ gr from fun b hb => by
    rcases hwent.row with e | ⟨b', e, hb'⟩
    · rw [e] at hb; cases hb
    · rw [e] at hb; cases hb; have := HE.out.head.lt; have := HLO.out; omega)
  have HB3 := Lib.hid (show GB w [(gk, 3, [.int .i64 ((0 : Nat) : Int)]), (gr, 33, [.pointer (some ⟨g, 0, none⟩)]), (G, 5, [.int .u8 (s : Int)]), (G + 1, 4, [.bool false])] g vb R l (wr.alloc (.cells #[.int .i64 0] 3)) from
    ⟨.cons (Row.newAt wr _ [.int .i64 0] hgk) (Lies.grown0 (fun p hp => (HE.out p hp).went hwent ⟨by have := HLO.out; simp at hp; rcases hp with rfl | rfl | rfl <;> simp <;> omega, by simp⟩) hga), hring.grown0 hga, hgw.trans hga⟩)
  have cr := HB3.out.lies.tail.head.cell (j := 0) rfl
  clear hring hwent hgw hk hlt hga hgrk HE HRG HG1 HLO
  go_wp2_with fail
  generalize wr.alloc (.cells #[.int .i64 0] 3) = W3 at *
  clear hgk cr
  refine (RingS.all_any (some ⟨g, 0, none⟩) W3).mono ?_
  rintro e w4 ⟨gp, rfl, hp, hg4, hgp⟩
  have HQ := Lib.hid (show gk < gp ∧ gk < w4.heap.size ∧ w.heap.size ≤ w4.heap.size by have := hg4.size; have := HB3.out.grow.size; have := HLK.out; refine ⟨by omega, by omega, by omega⟩)
  obtain ⟨N, hN⟩ : ∃ N, min k R = N := ⟨_, rfl⟩
  obtain ⟨M, hM⟩ : ∃ M, min N (s + 1) = M := ⟨_, rfl⟩
  have HNM := Lib.hid (show N ≤ 200 ∧ min N (s + 1) = M by omega)
  have HT := Lib.hid (show ∀ W, RingS.Ring W g vb R l → RingS.Tells (.pointer (some ⟨g, 0, none⟩)) N (fun j => l.getD (k - 1 - j) ⟨#[]⟩) W from fun W h => by
    have := RingS.tells_at g vb R l W h hR (by rw [HL.out]; omega)
    rw [HL.out, hN] at this
    exact this)
  generalize hE0 : [(gp, 33, [Value.pointer (some ⟨g, 0, none⟩)]), (gr, 33, [Value.pointer (some ⟨g, 0, none⟩)]), (G, 5, [Value.int .u8 (s : Int)]), (G + 1, 4, [Value.bool false])] = E0
  have HE0 := Lib.hid hE0
  have HB4 := Lib.hid (show GB w ((gk, 3, [.int .i64 ((0 : Nat) : Int)]) :: E0) g vb R l w4 from by
    have h := HB3.out.grown0 hg4
    rw [← hE0]
    exact ⟨.cons h.lies.head (.cons hp h.lies.tail), h.ring, h.grow⟩)
  have HNE := Lib.hid (show ∀ p ∈ E0, gk ≠ p.1 from fun p hp => by have := HLK.out; have := HQ.out; rw [← hE0] at hp; simp at hp; rcases hp with rfl | rfl | rfl | rfl <;> simp <;> omega)
  have HLT4 := Lib.hid (show g < w4.heap.size ∧ ∀ b, vb = some b → b < w4.heap.size from ⟨by have := HLK.out.1; have := HQ.out.2.1; omega, fun b hb => by have := HLK.out.2.2.2.2.2 b hb; have := HQ.out.2.1; omega⟩)
  clear hp hg4 hgp hN hM HB3 hE0
  unfold RingS.allV
  go_wp2_with fail
  have HWM := Lib.hid (show Lies w4 E0 ∧ w.heap.size ≤ w4.heap.size from ⟨HB4.out.lies.tail, HQ.out.2.2⟩)
  refine wp_range_upto2 rfl (enters_at Try.func29 (by kernel_rfl) (by kernel_rfl)) (RingS.allF gp (some ⟨g, 0, none⟩) N (fun j => l.getD (k - 1 - j) ⟨#[]⟩) (by have := HNM.out; omega)) (fun _ => rfl)
    2 ?hq (fun j W => (j ≤ N ∧ j ≤ s) ∧ GB w ((gk, 3, [.int .i64 (j : Int)]) :: E0) g vb R l W) (GB w ((gk, 3, [.int .i64 (M : Int)]) :: E0) g vb R l)
    (fun j W h => ⟨h.2.lies (gp, 33, [.pointer (some ⟨g, 0, none⟩)]) (by rw [← HE0.out]; simp), HT.out W h.2.ring⟩) (fun j W W' row h hg hr => ⟨h.1, h.2.own HQ.out.2.2 HLT4.out hg hr⟩) (fun _ W W' row h hg hr => h.own HQ.out.2.2 HLT4.out hg hr) ⟨⟨Nat.zero_le _, Nat.zero_le _⟩, HB4.out⟩
    (fun W h => by rw [show M = N by have := HNM.out.2; have := h.1.2; omega]; exact h.2)
    (fun j t => (((t.setIfInBounds 42 (.int .i64 (j : Int))).setIfInBounds 43 (.string (l.getD (k - 1 - j) ⟨#[]⟩))).setIfInBounds 11 (.int .i64 (j : Int))).setIfInBounds 12 (.string (l.getD (k - 1 - j) ⟨#[]⟩))) ?assign ?body ?meet
  case hq => exact fun _ _ h => h
  case assign =>
    intro lp j W K hj hI hK
    clear hI
    generalize l.getD (k - 1 - j) ⟨#[]⟩ = x at *
    simp only [List.setIfInBounds_toArray, List.set_cons_succ, List.set_cons_zero] at hK
    have HK := Lib.hid hK
    clear hK
    gi_wp2
    exact HK.out
  case body =>
    rintro lp j W hj ⟨⟨_, hjs⟩, hI⟩
    simp only [List.setIfInBounds_toArray, List.set_cons_succ, List.set_cons_zero]
    have HI := Lib.hid hI
    have HJ := Lib.hid (And.intro hj hjs)
    have cr := (hI.lies (gr, 33, [.pointer (some ⟨g, 0, none⟩)]) (by rw [← HE0.out]; simp)).cell (j := 0) rfl
    have ck := hI.lies.head.cell (j := 0) rfl
    have HA := Lib.hid (Calls.seen ((HT.out W hI.ring).2 j hj))
    simp only [RingS.pairV] at HA
    generalize l.getD (k - 1 - j) ⟨#[]⟩ = x at *
    clear hI hj hjs
    gi_wp2
    clear ck cr
    refine ⟨trivial, rfl, (callsIn_wide.2 HA.out).mono ?_⟩
    rintro e w5 ⟨rfl, hg5⟩
    have HI5 := Lib.hid (HI.out.grown0 hg5)
    have HG5 := Lib.hid hg5
    have ck := HI5.out.lies.head.cell (j := 0) rfl
    have fk := HI5.out.lies.head.frozen 0
    have HS := Lib.hid (HI5.out.set (by have := HLK.out; have := HG.out; omega) HNE.out (by have := HLK.out; omega) (fun b hb => by have := HLK.out.2.2.2.2.2 b hb; omega) (.int .i64 ((j : Int) + 1)))
    have ck1 := HS.out.lies.head.cell (j := 0) rfl
    have cs1 := (HS.out.lies (G, 5, [.int .u8 (s : Int)]) (by rw [← HE0.out]; simp)).cell (j := 0) rfl
    have HKF := Lib.hid ((KeepsFrom.of_grownBy (B := w4.heap.size) hg5 (fun _ e => by cases e)).trans (KeepsFrom.of_grownBy (grown_set w5 gk 0 (.int .i64 ((j : Int) + 1))) (fun r e => by cases e; exact HQ.out.2.1)))
    have hjb := HNM.out.1
    have hjb2 := HJ.out.1
    clear hg5 HA
    have hfs := HS.out
    by_cases hlt : j + 1 ≤ s
    · have hdec : decide ((s : Int) < (j : Int) + 1) = false := by simp; omega
      have HJS := Lib.hid hlt
      clear hlt hfs
      gi_wp2
      refine ⟨HKF.out, ⟨by have := HJ.out.1; omega, HJS.out⟩, ?_⟩
      rw [show ((j + 1 : Nat) : Int) = (j : Int) + 1 by omega]
      exact HS.out
    · have hdec : decide ((s : Int) < (j : Int) + 1) = true := by simp; omega
      have HJS := Lib.hid (show j + 1 = M by have := HJ.out; have := HNM.out.2; omega)
      clear hlt hfs
      gi_wp2
      refine ⟨HKF.out, rfl, ?_⟩
      rw [← HJS.out, show ((j + 1 : Nat) : Int) = (j : Int) + 1 by omega]
      exact HS.out
  case meet =>
  intro D W hD hZ hdef
  obtain ⟨gn, hgn⟩ : ∃ x, W.heap.size = x := ⟨_, rfl⟩
  have hga : W.grownBy (W.alloc (.cells #[.int .i64 0] 3)) none := grown_alloc (grown_refl W none) _
  have HLN := Lib.hid (show gk < gn ∧ D < gn ∧ gp < gn ∧ gn < (W.alloc (.cells #[.int .i64 0] 3)).heap.size by
    have h1 := (Array.getElem?_eq_some_iff.1 hdef).1
    have h2 := hZ.lies.head.lt
    have h3 := (hZ.lies (gp, 33, [.pointer (some ⟨g, 0, none⟩)]) (by rw [← HE0.out]; simp)).lt
    rw [World.size_alloc]
    omega)
  have HDB := Lib.hid hD
  have HZ := Lib.hid (hZ.grown0 hga)
  have HNR := Lib.hid (show Row (W.alloc (.cells #[.int .i64 0] 3)) gn 3 [.int .i64 ((0 : Nat) : Int)] from Row.newAt W _ [.int .i64 0] hgn)
  have HDF := Lib.hid (held_grown hdef hga)
  have cr := (HZ.out.lies (gr, 33, [.pointer (some ⟨g, 0, none⟩)]) (by rw [← HE0.out]; simp)).cell (j := 0) rfl
  clear hD hZ hdef hga
  go_wp2_with fail
  generalize W.alloc (.cells #[.int .i64 0] 3) = W7 at *
  clear hgn cr
  refine (RingS.old_any (some ⟨g, 0, none⟩) W7).mono ?_
  rintro e w8 ⟨gq, rfl, hq, hg8, hgq⟩
  have HQ2 := Lib.hid (show gn < gq ∧ gn < w8.heap.size ∧ D < w8.heap.size ∧ w4.heap.size ≤ D by have := hg8.size; have := HLN.out; have := HDB.out; omega)
  have HDF8 := Lib.hid (held_grown HDF.out hg8)
  generalize hE1 : (gq, 33, [Value.pointer (some ⟨g, 0, none⟩)]) :: (gk, 3, [Value.int .i64 (M : Int)]) :: E0 = E1
  have HE1 := Lib.hid hE1
  have HB8 := Lib.hid (show GB w ((gn, 3, [.int .i64 ((0 : Nat) : Int)]) :: E1) g vb R l w8 from by
    have h := HZ.out.grown0 hg8
    rw [← hE1]
    exact ⟨.cons (HNR.out.grown0 hg8) (.cons hq h.lies), h.ring, h.grow⟩)
  have HNE1 := Lib.hid (show ∀ p ∈ E1, gn ≠ p.1 from fun p hp => by
    have := HLN.out
    have := HLK.out
    have := HQ2.out
    rw [← hE1, ← HE0.out] at hp
    simp at hp
    rcases hp with rfl | rfl | rfl | rfl | rfl | rfl <;> simp <;> omega)
  have HLT8 := Lib.hid (show g < w8.heap.size ∧ ∀ b, vb = some b → b < w8.heap.size from ⟨by have := HLK.out.1; have := HLN.out.1; have := HQ2.out; omega, fun b hb => by have := HLK.out.2.2.2.2.2 b hb; have := HLN.out.1; have := HQ2.out; omega⟩)
  clear hq hg8 hgq HZ HNR HDF hE1 HNE HLT4 HWM HB4
  unfold RingS.oldV
  go_wp2_with fail
  have HWS := Lib.hid HB8.out.grow.size
  refine wp_range_upto2 rfl (enters_at Try.func30 (by kernel_rfl) (by kernel_rfl)) (RingS.oldF gq (some ⟨g, 0, none⟩) N (fun j => l.getD (k - 1 - j) ⟨#[]⟩) (by have := HNM.out; omega)) (fun _ => rfl)
    4 ?hq (fun j W => (j ≤ N ∧ j ≤ s) ∧ GB w ((gn, 3, [.int .i64 (j : Int)]) :: E1) g vb R l W ∧ W.heap[D]? = some (.deferred (some []))) (fun W => GB w ((gn, 3, [.int .i64 (M : Int)]) :: E1) g vb R l W ∧ W.heap[D]? = some (.deferred (some [])))
    (fun j W h => ⟨h.2.1.lies (gq, 33, [.pointer (some ⟨g, 0, none⟩)]) (by rw [← HE1.out]; simp), HT.out W h.2.1.ring⟩) (fun j W W' row h hg hr => ⟨h.1, h.2.1.own HWS.out HLT8.out hg hr, held_own h.2.2 HQ2.out.2.2.1 hg hr⟩) (fun _ W W' row h hg hr => ⟨h.1.own HWS.out HLT8.out hg hr, held_own h.2 HQ2.out.2.2.1 hg hr⟩) ⟨⟨Nat.zero_le _, Nat.zero_le _⟩, HB8.out, HDF8.out⟩
    (fun W h => by rw [show M = N by have := HNM.out.2; have := h.1.2; omega]; exact h.2)
    (fun j t => (t.setIfInBounds 70 (.string (l.getD (k - 1 - (N - 1 - j)) ⟨#[]⟩))).setIfInBounds 16 (.string (l.getD (k - 1 - (N - 1 - j)) ⟨#[]⟩))) ?assign ?body ?meet
  case hq => exact fun _ _ h => h
  case assign =>
    intro lp j W K hj hI hK
    clear hI
    generalize l.getD (k - 1 - (N - 1 - j)) ⟨#[]⟩ = x at *
    simp only [List.setIfInBounds_toArray, List.set_cons_succ, List.set_cons_zero] at hK
    have HK := Lib.hid hK
    clear hK
    gi_wp2
    exact HK.out
  case body =>
    rintro lp j W hj ⟨⟨_, hjs⟩, hI, hdf⟩
    simp only [List.setIfInBounds_toArray, List.set_cons_succ, List.set_cons_zero]
    have HI := Lib.hid hI
    have HJ := Lib.hid (And.intro hj hjs)
    have HD9 := Lib.hid hdf
    generalize hx : l.getD (k - 1 - (N - 1 - j)) ⟨#[]⟩ = x at *
    clear hI hj hjs hdf
    have HTJ := Lib.hid (fun W h => (HT.out W h).2 (N - 1 - j) (by have := HJ.out.1; omega))
    have HX := Lib.hid hx
    dsimp only at HTJ
    rw [hx] at HTJ
    clear hx
    gi_wp2
    rename ∀ (a : Act) (w : World), Code.wpIn _ _ _ _ _ a w → _ => hK1
    have HK1 := Lib.hid hK1
    clear hK1
    refine region_round_walk 12 [] dis_nil (by kernel_rfl) (by kernel_rfl) (by kernel_rfl) (by kernel_rfl) (fun _ _ h => h) ?_
    simp only [List.take_succ_cons, List.take_zero, List.drop_succ_cons, List.drop_zero]
    refine Walk.val (G := Is (.pointer (some ⟨g, 0, none⟩))) (stays_is _ _) rfl rfl (fun a w hm hd => ⟨wanted_plain rfl, st_cell rfl (fun _ => by kernel_rfl) (by rw [hm.outer 7 (by kernel_rfl)]; rfl) ((HI.out.lies (gr, 33, [.pointer (some ⟨g, 0, none⟩)]) (by rw [← HE1.out, ← HE0.out]; simp)).grown0 hm.grow.none2 |>.cell (j := 0) rfl)⟩) ?_
    refine Walk.val (G := Is (.pointer (some ⟨g, 0, none⟩))) (stays_is _ _) rfl rfl (fun a w hm hd => ⟨wanted_plain rfl, st_cell rfl (fun _ => by kernel_rfl) (by rw [hm.outer 7 (by kernel_rfl)]; rfl) ((HI.out.lies (gr, 33, [.pointer (some ⟨g, 0, none⟩)]) (by rw [← HE1.out, ← HE0.out]; simp)).grown0 hm.grow.none2 |>.cell (j := 0) rfl)⟩) ?_
    refine Walk.call (G := Is (.int .i64 ((N : Int)))) (stays_is _ _) rfl 23 rfl (fun a w hm ha hd => ⟨wanted_plain rfl, _, ex_call1 Try.func23 (by kernel_rfl) (by kernel_rfl) rfl, by
      rw [show a.eval (.tmp 73) = _ from (hd.at_ 1 rfl rfl rfl rfl)]
      exact Saw.made (HT.out w (HI.out.ring.grown0 hm.grow.none2)).1⟩) ?_
    refine Walk.val (G := Is (.int .i64 ((N : Int) - 1))) (stays_is _ _) rfl rfl (fun a w hm hd => ⟨wanted_plain rfl, st_subi rfl (hd.at_ 2 rfl rfl rfl rfl) rfl (by have := HJ.out.1; have := HNM.out.1; omega) (by have := HJ.out.1; have := HNM.out.1; omega)⟩) ?_
    refine Walk.val (G := Is (.int .i64 ((j : Int)))) (stays_is _ _) rfl rfl (fun a w hm hd => ⟨wanted_plain rfl, st_cell rfl (fun _ => by kernel_rfl) (by rw [hm.outer 15 (by kernel_rfl)]; rfl) ((HI.out.lies.head.grown0 hm.grow.none2).cell (j := 0) rfl)⟩) ?_
    refine Walk.val (G := Is (.int .i64 (((N - 1 - j : Nat) : Int)))) (stays_is _ _) rfl rfl (fun a w hm hd => ⟨wanted_plain rfl, st_subi rfl (hd.at_ 3 rfl rfl rfl rfl) (hd.at_ 4 rfl rfl rfl rfl) (by have := HJ.out.1; have := HNM.out.1; omega) (by have := HJ.out.1; have := HNM.out.1; omega)⟩) ?_
    refine Walk.call (G := Is (RingS.pairV (x, true))) (stays_is _ _) rfl 21 rfl (fun a w hm ha hd => ⟨wanted_plain rfl, _, ex_call2 Try.func21 (by kernel_rfl) (by kernel_rfl) rfl, by
      rw [show a.eval (.tmp 72) = _ from (hd.at_ 0 rfl rfl rfl rfl), show a.eval (.tmp 77) = _ from (hd.at_ 5 rfl rfl rfl rfl)]
      exact Saw.made (HTJ.out w (HI.out.ring.grown0 hm.grow.none2))⟩) ?_
    refine Walk.val (G := Is (RingS.pairV (x, true))) (stays_is _ _) rfl rfl (fun a w hm hd => ⟨wanted_plain rfl, st_move rfl (hd.at_ 6 rfl rfl rfl rfl)⟩) ?_
    refine Walk.val (G := Is (.string x)) (stays_is _ _) rfl rfl (fun a w hm hd => ⟨wanted_plain rfl, st_extract 0 rfl (hd.at_ 7 rfl rfl rfl rfl) rfl⟩) ?_
    refine Walk.val (G := Is (.bool true)) (stays_is _ _) rfl rfl (fun a w hm hd => ⟨wanted_plain rfl, st_extract 1 rfl (hd.at_ 7 rfl rfl rfl rfl) rfl⟩) ?_
    refine Walk.val (G := Is (.string x)) (stays_is _ _) rfl rfl (fun a w hm hd => ⟨wanted_plain rfl, st_assign rfl (hd.at_ 8 rfl rfl rfl rfl)⟩) ?_
    refine Walk.val (G := Is (.bool true)) (stays_is _ _) rfl rfl (fun a w hm hd => ⟨wanted_plain rfl, st_assign rfl (hd.at_ 9 rfl rfl rfl rfl)⟩) ?_
    intro a9 V9 hm9 hall
    have f72 : Is (.pointer (some ⟨g, 0, none⟩)) (a9.eval (.tmp 72)) V9 := hall 0 _ _ rfl rfl
    have f73 : Is (.pointer (some ⟨g, 0, none⟩)) (a9.eval (.tmp 73)) V9 := hall 1 _ _ rfl rfl
    have f74 : Is (.int .i64 ((N : Int))) (a9.eval (.tmp 74)) V9 := hall 2 _ _ rfl rfl
    have f75 : Is (.int .i64 ((N : Int) - 1)) (a9.eval (.tmp 75)) V9 := hall 3 _ _ rfl rfl
    have f76 : Is (.int .i64 ((j : Int))) (a9.eval (.tmp 76)) V9 := hall 4 _ _ rfl rfl
    have f77 : Is (.int .i64 (((N - 1 - j : Nat) : Int))) (a9.eval (.tmp 77)) V9 := hall 5 _ _ rfl rfl
    have f78 : Is (RingS.pairV (x, true)) (a9.eval (.tmp 78)) V9 := hall 6 _ _ rfl rfl
    have f71 : Is (RingS.pairV (x, true)) (a9.eval (.tmp 71)) V9 := hall 7 _ _ rfl rfl
    have f79 : Is (.string x) (a9.eval (.tmp 79)) V9 := hall 8 _ _ rfl rfl
    have f80 : Is (.bool true) (a9.eval (.tmp 80)) V9 := hall 9 _ _ rfl rfl
    have f17 : Is (.string x) (a9.eval (.tmp 17)) V9 := hall 10 _ _ rfl rfl
    have f18 : Is (.bool true) (a9.eval (.tmp 18)) V9 := hall 11 _ _ rfl rfl
    have hfr := hm9.frame
    simp only [List.take_succ_cons, List.take_zero, List.filterMap_cons, List.filterMap_nil, List.foldl_cons, List.foldl_nil] at hfr
    have hgV9 : W.grownBy V9 none := GrownX.none2 hm9.grow
    clear hall hm9
    rw [show a9.eval (.tmp 72) = _ from f72] at hfr
    clear f72
    rw [show a9.eval (.tmp 73) = _ from f73] at hfr
    clear f73
    rw [show a9.eval (.tmp 74) = _ from f74] at hfr
    clear f74
    rw [show a9.eval (.tmp 75) = _ from f75] at hfr
    clear f75
    rw [show a9.eval (.tmp 76) = _ from f76] at hfr
    clear f76
    rw [show a9.eval (.tmp 77) = _ from f77] at hfr
    clear f77
    rw [show a9.eval (.tmp 78) = _ from f78] at hfr
    clear f78
    rw [show a9.eval (.tmp 71) = _ from f71] at hfr
    clear f71
    rw [show a9.eval (.tmp 79) = _ from f79] at hfr
    clear f79
    rw [show a9.eval (.tmp 80) = _ from f80] at hfr
    clear f80
    rw [show a9.eval (.tmp 17) = _ from f17] at hfr
    clear f17
    rw [show a9.eval (.tmp 18) = _ from f18] at hfr
    clear f18
    have HI9 := Lib.hid (HI.out.grown0 hgV9)
    have HDV9 := Lib.hid (held_grown HD9.out hgV9)
    have HG9 := Lib.hid hgV9
    have ck := HI9.out.lies.head.cell (j := 0) rfl
    have fk := HI9.out.lies.head.frozen 0
    have HS := Lib.hid (HI9.out.set (by have := HLK.out; have := HLN.out; have := HG.out; omega) HNE1.out (by have := HLK.out; have := HLN.out; omega) (fun b hb => by have := HLK.out.2.2.2.2.2 b hb; have := HLN.out; omega) (.int .i64 ((j : Int) + 1)))
    have HSD := Lib.hid (show (V9.setCell ⟨gn, 0, none⟩ (.int .i64 ((j : Int) + 1))).heap[D]? = some (.deferred (some [])) from ((grown_set V9 gn 0 (.int .i64 ((j : Int) + 1))).block D (Array.getElem?_eq_some_iff.1 HDV9.out).1 (by have := HLN.out; simp; omega)).trans HDV9.out)
    have ck1 := HS.out.lies.head.cell (j := 0) rfl
    have cs1 := (HS.out.lies (G, 5, [.int .u8 (s : Int)]) (by rw [← HE1.out, ← HE0.out]; simp)).cell (j := 0) rfl
    have HKF := Lib.hid ((KeepsFrom.of_grownBy (B := w8.heap.size) hgV9 (fun _ e => by cases e)).trans (KeepsFrom.of_grownBy (grown_set V9 gn 0 (.int .i64 ((j : Int) + 1))) (fun r e => by cases e; exact HQ2.out.2.1)))
    have hjb := HNM.out.1
    have hjb2 := HJ.out.1
    clear hgV9
    simp only [Act.put, List.setIfInBounds_toArray, List.set_cons_succ, List.set_cons_zero] at hfr
    unfold wpList
    rw [hfr]
    clear hfr
    refine HK1.out _ _ ?_
    have hfs := HS.out
    by_cases hlt : j + 1 ≤ s
    · have hdec : decide ((s : Int) < (j : Int) + 1) = false := by simp; omega
      have HJS := Lib.hid hlt
      clear hlt hfs
      gi_wp2
      refine ⟨HKF.out, ⟨by have := HJ.out.1; omega, HJS.out⟩, ?_, HSD.out⟩
      rw [show ((j + 1 : Nat) : Int) = (j : Int) + 1 by omega]
      exact HS.out
    · have hdec : decide ((s : Int) < (j : Int) + 1) = true := by simp; omega
      have HJS := Lib.hid (show j + 1 = M by have := HJ.out; have := HNM.out.2; omega)
      clear hlt hfs
      gi_wp2
      refine ⟨HKF.out, rfl, ?_, HSD.out⟩
      rw [← HJS.out, show ((j + 1 : Nat) : Int) = (j : Int) + 1 by omega]
      exact HS.out
  case meet =>
  rintro D2 V hD2 ⟨hZ2, hdf2⟩ hdef2
  have HZ2 := Lib.hid hZ2
  have HDD := Lib.hid (And.intro hdf2 hdef2)
  have HDN := Lib.hid (show D ≠ D2 ∧ w.heap.size ≤ D ∧ w.heap.size ≤ D2 ∧ G + 1 ≠ D ∧ G + 1 ≠ D2 by
    have := HQ2.out
    have := HQ.out
    have := HLK.out
    have := HLN.out
    have := HG.out
    refine ⟨by omega, by omega, by omega, by omega, by omega⟩)
  have HMI := Lib.hid (show min (N : Int) ((s : Int) + 1) = (M : Int) by have := HNM.out.2; omega)
  clear hD2 hZ2 hdf2 hdef2 HB8 HDF8
  go_wp2_with fail
  refine wp_region_walk3 7 [] dis_nil (by kernel_rfl) (by kernel_rfl) (by kernel_rfl) ?_
  simp only [List.take_succ_cons, List.take_zero, List.drop_succ_cons, List.drop_zero]
  refine Walk.val (G := Is (.pointer (some ⟨g, 0, none⟩))) (stays_is _ _) rfl rfl (fun a w hm hd => ⟨wanted_plain rfl, st_cell rfl (fun _ => by kernel_rfl) (by rw [hm.outer 7 (by kernel_rfl)]; rfl) ((HZ2.out.lies (gr, 33, [.pointer (some ⟨g, 0, none⟩)]) (by rw [← HE1.out, ← HE0.out]; simp)).grown0 hm.grow.none2 |>.cell (j := 0) rfl)⟩) ?_
  refine Walk.call (G := Is (.int .i64 ((N : Int)))) (stays_is _ _) rfl 23 rfl (fun a w hm ha hd => ⟨wanted_plain rfl, _, ex_call1 Try.func23 (by kernel_rfl) (by kernel_rfl) rfl, by
    rw [show a.eval (.tmp 94) = _ from (hd.at_ 0 rfl rfl rfl rfl)]
    exact Saw.made (HT.out w (HZ2.out.ring.grown0 hm.grow.none2)).1⟩) ?_
  refine Walk.val (G := Is (.int .u8 (s : Int))) (stays_is _ _) rfl rfl (fun a w hm hd => ⟨wanted_plain rfl, st_cell rfl (fun _ => by kernel_rfl) (by rw [hm.outer 5 (by kernel_rfl)]; rfl) ((HZ2.out.lies (G, 5, [.int .u8 (s : Int)]) (by rw [← HE1.out, ← HE0.out]; simp)).grown0 hm.grow.none2 |>.cell (j := 0) rfl)⟩) ?_
  refine Walk.val (G := Is (.int .i64 ((s : Int)))) (stays_is _ _) rfl rfl (fun a w hm hd => ⟨wanted_plain rfl, st_conv8 rfl (hd.at_ 2 rfl rfl rfl rfl) (by omega)⟩) ?_
  refine Walk.val (G := Is (.int .i64 ((s : Int) + 1))) (stays_is _ _) rfl rfl (fun a w hm hd => ⟨wanted_plain rfl, st_addi rfl (hd.at_ 3 rfl rfl rfl rfl) rfl (by omega) (by omega)⟩) ?_
  refine Walk.val (G := Is (.int .i64 ((M : Int)))) (stays_is _ _) rfl rfl (fun a w hm hd => ⟨wanted_plain rfl, st_min rfl (hd.at_ 1 rfl rfl rfl rfl) (hd.at_ 4 rfl rfl rfl rfl) HMI.out⟩) ?_
  refine Walk.val (G := Is (.int .i64 ((M : Int)))) (stays_is _ _) rfl rfl (fun a w hm hd => ⟨wanted_plain rfl, st_assign rfl (hd.at_ 5 rfl rfl rfl rfl)⟩) ?_
  intro a9 V9 hm9 hall
  have f94 : Is (.pointer (some ⟨g, 0, none⟩)) (a9.eval (.tmp 94)) V9 := hall 0 _ _ rfl rfl
  have f95 : Is (.int .i64 ((N : Int))) (a9.eval (.tmp 95)) V9 := hall 1 _ _ rfl rfl
  have f96 : Is (.int .u8 (s : Int)) (a9.eval (.tmp 96)) V9 := hall 2 _ _ rfl rfl
  have f97 : Is (.int .i64 ((s : Int))) (a9.eval (.tmp 97)) V9 := hall 3 _ _ rfl rfl
  have f98 : Is (.int .i64 ((s : Int) + 1)) (a9.eval (.tmp 98)) V9 := hall 4 _ _ rfl rfl
  have f99 : Is (.int .i64 ((M : Int))) (a9.eval (.tmp 99)) V9 := hall 5 _ _ rfl rfl
  have f19 : Is (.int .i64 ((M : Int))) (a9.eval (.tmp 19)) V9 := hall 6 _ _ rfl rfl
  have hfr := hm9.frame
  simp only [List.take_succ_cons, List.take_zero, List.filterMap_cons, List.filterMap_nil, List.foldl_cons, List.foldl_nil] at hfr
  have hgV9 : V.grownBy V9 none := GrownX.none2 hm9.grow
  clear hall hm9
  rw [show a9.eval (.tmp 94) = _ from f94] at hfr
  clear f94
  rw [show a9.eval (.tmp 95) = _ from f95] at hfr
  clear f95
  rw [show a9.eval (.tmp 96) = _ from f96] at hfr
  clear f96
  rw [show a9.eval (.tmp 97) = _ from f97] at hfr
  clear f97
  rw [show a9.eval (.tmp 98) = _ from f98] at hfr
  clear f98
  rw [show a9.eval (.tmp 99) = _ from f99] at hfr
  clear f99
  rw [show a9.eval (.tmp 19) = _ from f19] at hfr
  clear f19
  have HZ9 := Lib.hid (HZ2.out.grown0 hgV9)
  have HDV9 := Lib.hid (And.intro (held_grown HDD.out.1 hgV9) (held_grown HDD.out.2 hgV9))
  have ck := (show Row V9 gk 3 [.int .i64 (M : Int)] from HZ9.out.lies (gk, 3, [.int .i64 (M : Int)]) (by rw [← HE1.out]; simp)).cell (j := 0) rfl
  have cn := HZ9.out.lies.head.cell (j := 0) rfl
  have HRR := Lib.hid (show Row V9 (G + 1) 4 [.bool false] from HZ9.out.lies (G + 1, 4, [.bool false]) (by rw [← HE1.out, ← HE0.out]; simp))
  clear hgV9
  unfold wpList
  rw [hfr]
  clear hfr
  go_simp
  go_wp2_with (go_at_call 11; refine (awake_any _).mono ?_; rintro e w9 ⟨rfl, hg9⟩; have hrr9 := HRR.out.grown0 hg9; have crr := hrr9.cell (j := 0) rfl; have frr := hrr9.frozen 0)
  have hs := grown_set w9 (G + 1) 0 (.bool true)
  have hd1 : (w9.setCell ⟨G + 1, 0, none⟩ (.bool true)).heap[D]? = some (.deferred (some [])) := (hs.block D (Array.getElem?_eq_some_iff.1 (held_grown HDV9.out.1 hg9)).1 (by have := HDN.out; simp; omega)).trans (held_grown HDV9.out.1 hg9)
  have hd2 : (w9.setCell ⟨G + 1, 0, none⟩ (.bool true)).heap[D2]? = some (.deferred (some [])) := (hs.block D2 (Array.getElem?_eq_some_iff.1 (held_grown HDV9.out.2 hg9)).1 (by have := HDN.out; simp; omega)).trans (held_grown HDV9.out.2 hg9)
  have hd1' : ((w9.setCell ⟨G + 1, 0, none⟩ (.bool true)).putObj D2 (.deferred none)).heap[D]? = some (.deferred (some [])) := (World.putObj_heap_other HDN.out.1).trans hd1
  have hgr : w.grownBy (w9.setCell ⟨G + 1, 0, none⟩ (.bool true)) none := grown_own (HZ9.out.grow.trans hg9) hs (by have := HG.out; omega)
  have hrow := hrr9.set 0 (.bool true)
  refine ⟨by simp, .inl ⟨_, _, rfl, run_takeDeferred hd2, ?_⟩⟩
  refine ⟨by simp, .inl ⟨_, _, rfl, run_takeDeferred hd1', ?_⟩⟩
  refine ⟨.bool true, ?_, rfl, grown_own (grown_own hgr (grownBy_putObj' _ D2 _) HDN.out.2.2.1) (grownBy_putObj' _ D _) HDN.out.2.1⟩
  exact results_bool Try.results5 (G + 1) rfl (((hrow.grown (grownBy_putObj' _ D2 _) (by have := HDN.out; simp; omega)).grown (grownBy_putObj' _ D _) (by have := HDN.out; simp; omega)))
end Go.Proofs.Ytnbeakpmglefmaa
