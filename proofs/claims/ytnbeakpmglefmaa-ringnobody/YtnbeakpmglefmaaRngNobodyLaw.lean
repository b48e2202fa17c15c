/-
  The law RingNobody, walked.
-/
import Derived.Test.YtnbeakpmglefmaaRngOps
import Derived.Test.YtnbeakpmglefmaaRngICopy
import Derived.Test.YtnbeakpmglefmaaRngIIter
import Derived.Test.YtnbeakpmglefmaaResBool
namespace Go.Proofs.Ytnbeakpmglefmaa
open Go.RowKit

set_option maxHeartbeats 400000 in
theorem RingI.copy_nil (w : World) : Calls Try.prog 24 #[.pointer none] w (Saw (.pointer none) w) := by
  go_enter Try.func24, Try.ntmps24
  go_wp2
  go_ret
  exact ⟨rfl, 0, rfl⟩
/-- What lies there in and behind the loops. -/
structure NB (w : World) (G gp gq : Nat) (W : World) : Prop where
  rr : Row W G 4 [.bool false]
  ap : Row W gp 23 [.pointer none]
  aq : Row W gq 23 [.pointer none]
  grow : w.grownBy W none
theorem NB.own {w W W' : World} {G gp gq B : Nat} {row : Option Nat} (h : NB w G gp gq W) (hB : w.heap.size ≤ B) (hg : W.grownBy W' row) (hr : ∀ r, row = some r → B ≤ r ∧ ∃ o : Obj, W.heap[r]? = some o ∧ o.isCells = false) : NB w G gp gq W' :=
  ⟨h.rr.own hg hr, h.ap.own hg hr, h.aq.own hg hr, grown_ownFrom h.grow hB hg hr⟩

set_option maxHeartbeats 8000000 in
theorem ringNobody_walk (n : Int) (w : World) :
    Calls Try.prog 7 #[.int .i64 n] w (Awake w) := by
  generalize hG : w.heap.size = G
  obtain ⟨W0, hW0⟩ : ∃ W, w.alloc (.cells #[.bool false] 4) = W := ⟨_, rfl⟩
  have RR := Lib.hid (show Row W0 G 4 [.bool false] by rw [← hW0]; exact Row.newAt _ _ [.bool false] hG)
  have HGR := Lib.hid (show w.grownBy W0 none by rw [← hW0]; exact grown_alloc (grown_refl _ _) _)
  have HG := Lib.hid hG
  refine callsIn_wide.1 (callsIn_of_wp_marks (n := 0) Try.func7 rfl trivial (wpIn_wide.2 ?_) rfl)
  simp only [Try.ntmps7, List.size_toArray, List.length_cons, List.length_nil, Nat.reduceAdd, Nat.reduceSub, Array.replicate_succ, Array.replicate_zero, List.push_toArray, List.append_toArray, List.nil_append, List.cons_append]
  go_wp2_with fail
  refine (Calls.seen (RingI.put_nil n W0)).mono ?_
  rintro e w1 ⟨rfl, hg1⟩
  have HG1 := Lib.hid (And.intro (HGR.out.trans hg1) (RR.out.grown0 hg1))
  clear hg1 hW0 HGR RR hG
  simp only [RingI.pairV]
  go_wp2_with fail
  refine (Calls.seen (RingI.at_nil n w1)).mono ?_
  rintro e w2 ⟨rfl, hg2⟩
  have HG2 := Lib.hid (And.intro (HG1.out.1.trans hg2) (HG1.out.2.grown0 hg2))
  clear hg2 HG1
  simp only [RingI.pairV]
  go_wp2_with fail
  refine (RingI.all_any none w2).mono ?_
  rintro e w3 ⟨gp, rfl, hp, hg3, _⟩
  have HG3 := Lib.hid (And.intro (HG2.out.1.trans hg3) (And.intro (HG2.out.2.grown0 hg3) hp))
  clear hg3 hp HG2
  unfold RingI.allV
  go_wp2_with fail
  refine (RingI.old_any none w3).mono ?_
  rintro e w4 ⟨gq, rfl, hq, hg4, _⟩
  have HNB := Lib.hid (show NB w G gp gq w4 from ⟨HG3.out.2.1.grown0 hg4, HG3.out.2.2.grown0 hg4, hq, HG3.out.1.trans hg4⟩)
  clear hg4 hq HG3
  unfold RingI.oldV
  have heq : (binOp .eql 45 (.func (.func 32) #[] #[.pointer (some ⟨gp, 0, none⟩)]) .nilFunc).run Try.prog w4 = .ok (.bool false) w4 := by kernel_rfl
  have heq2 : (binOp .eql 47 (.func (.func 33) #[] #[.pointer (some ⟨gq, 0, none⟩)]) .nilFunc).run Try.prog w4 = .ok (.bool false) w4 := by kernel_rfl
  go_wp2_with fail
  clear heq heq2
  have HWW := Lib.hid HNB.out.grow.size
  refine wp_range_none rfl (enters_at Try.func32 (by kernel_rfl) (by kernel_rfl)) (RingI.allF gp none 0 (fun _ => 0) (by decide)) (fun _ => rfl)
    (NB w G gp gq) (fun W h => ⟨h.ap, RingI.tells_nil _ _⟩) (fun _ W W' row h hg hr => h.own HWW.out hg hr) HNB.out ?_
  intro D W hD hI hdef
  have HI := Lib.hid hI
  have HD := Lib.hid (And.intro hD hdef)
  clear hD hI hdef HNB
  go_wp2_with fail
  have HDL := Lib.hid (show D < W.heap.size from (Array.getElem?_eq_some_iff.1 HD.out.2).1)
  refine wp_range_none rfl (enters_at Try.func33 (by kernel_rfl) (by kernel_rfl)) (RingI.oldF gq none 0 (fun _ => 0) (by decide)) (fun _ => rfl)
    (fun W => NB w G gp gq W ∧ W.heap[D]? = some (.deferred (some []))) (fun W h => ⟨h.1.aq, RingI.tells_nil _ _⟩) (fun _ W W' row h hg hr => ⟨h.1.own HI.out.grow.size hg hr, held_own h.2 HDL.out hg hr⟩) ⟨HI.out, HD.out.2⟩ ?_
  rintro D2 V hD2 ⟨hI2, hdef1⟩ hdef2
  have HV := Lib.hid hI2
  have HDV := Lib.hid (And.intro hdef1 (And.intro hD2 hdef2))
  have HDN := Lib.hid (show D ≠ D2 ∧ w.heap.size ≤ D ∧ w.heap.size ≤ D2 ∧ G ≠ D ∧ G ≠ D2 by have := HD.out.1; have := HDL.out; have := HWW.out; have := HG.out; have := HI.out.rr.lt; have := hI2.rr.lt; refine ⟨by omega, by omega, by omega, ?_, ?_⟩ <;> (rintro rfl; first | (have h1 := hI2.rr; unfold Row at h1; rw [hdef1] at h1; cases h1) | (have h1 := hI2.rr; unfold Row at h1; rw [hdef2] at h1; cases h1)))
  clear hD2 hI2 hdef1 hdef2 HI HD
  go_wp2_with fail
  refine (Calls.seen (RingI.len_nil V)).mono ?_
  rintro e w5 ⟨rfl, hg5⟩
  go_wp2_with fail
  refine (Calls.seen (RingI.room_nil _)).mono ?_
  rintro e w6 ⟨rfl, hg6⟩
  have hg6 := hg5.trans hg6
  clear hg5
  go_wp2_with fail
  refine (Calls.seen (RingI.many_nil _)).mono ?_
  rintro e w7 ⟨rfl, hg7⟩
  have hg7 := hg6.trans hg7
  clear hg6
  go_wp2_with fail
  refine (Calls.seen (RingI.copy_nil _)).mono ?_
  rintro e w8 ⟨rfl, hg8⟩
  have HG8 := Lib.hid (hg7.trans hg8)
  clear hg7 hg8
  go_wp2_with (go_at_call 11; refine (awake_any _).mono ?_; rintro e w9 ⟨rfl, hg9⟩; have hrr9 := HV.out.rr.grown0 (HG8.out.trans hg9); have crr := hrr9.cell (j := 0) rfl; have frr := hrr9.frozen 0)
  have hgu := HG8.out.trans hg9
  have hs := grown_set w9 G 0 (.bool true)
  have hd1 : (w9.setCell ⟨G, 0, none⟩ (.bool true)).heap[D]? = some (.deferred (some [])) := (hs.block D (Array.getElem?_eq_some_iff.1 (held_grown HDV.out.1 hgu)).1 (by simp; exact fun e => HDN.out.2.2.2.1 e.symm)).trans (held_grown HDV.out.1 hgu)
  have hd2 : (w9.setCell ⟨G, 0, none⟩ (.bool true)).heap[D2]? = some (.deferred (some [])) := (hs.block D2 (Array.getElem?_eq_some_iff.1 (held_grown HDV.out.2.2 hgu)).1 (by simp; exact fun e => HDN.out.2.2.2.2 e.symm)).trans (held_grown HDV.out.2.2 hgu)
  have hd1' : ((w9.setCell ⟨G, 0, none⟩ (.bool true)).putObj D2 (.deferred none)).heap[D]? = some (.deferred (some [])) := (World.putObj_heap_other HDN.out.1).trans hd1
  have hgr : w.grownBy (w9.setCell ⟨G, 0, none⟩ (.bool true)) none := grown_own (HV.out.grow.trans hgu) hs (by have := HG.out; omega)
  have hrow := hrr9.set 0 (.bool true)
  refine ⟨by simp, .inl ⟨_, _, rfl, run_takeDeferred hd2, ?_⟩⟩
  refine ⟨by simp, .inl ⟨_, _, rfl, run_takeDeferred hd1', ?_⟩⟩
  refine ⟨.bool true, ?_, rfl, grown_own (grown_own hgr (grownBy_putObj' _ D2 _) HDN.out.2.2.1) (grownBy_putObj' _ D _) HDN.out.2.1⟩
  exact results_bool Try.results7 G rfl (((hrow.grown (grownBy_putObj' _ D2 _) (by simp; exact HDN.out.2.2.2.2)).grown (grownBy_putObj' _ D _) (by simp; exact HDN.out.2.2.2.1)))
end Go.Proofs.Ytnbeakpmglefmaa
