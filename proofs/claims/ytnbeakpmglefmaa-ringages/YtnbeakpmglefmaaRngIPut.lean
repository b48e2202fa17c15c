/-
  ring's Put over this program, of things of type int.
-/
import Derived.Test.YtnbeakpmglefmaaRngIAt
namespace Go.Proofs.Ytnbeakpmglefmaa.RingI
open Go.RowKit

set_option maxHeartbeats 1000000 in
theorem put_nil (x : Int) (w : World) : Calls Try.prog 12 #[.pointer none, (Value.int .i64 (x))] w (Saw (pairV ((0 : Int), false)) w) := by
  go_enter Try.func12, Try.ntmps12
  go_wp2
  refine bodyPost_ret (results_tmp2 rfl _ _ _) rfl ?_
  exact ⟨rfl, 0, rfl⟩

/-- What Put answers. -/
def PutOut (w : World) (g : Nat) (vb : Option Nat) (R : Nat) (L : List Int) (x : Int) (p : Int × Bool) (e : Ending) (w' : World) : Prop :=
  ∃ vb', e = .returned (pairV p) ∧ Ring w' g vb' R (L ++ [x]) ∧ Went w g vb w' vb'

theorem went_set (w : World) (g i : Nat) (v : Value) (vb : Option Nat) : Went w g vb (w.setCell ⟨g, i, none⟩ v) vb :=
  ⟨rfl, rfl, rfl, by simp, fun k _ h1 _ => heap_setCell_other w _ k v h1, .inl rfl⟩

theorem grow_end {w W2 w3 : World} {g : Nat} {vb : Option Nat} {v v' : Value} {R : Nat} {L xs : List Int} {x : Int} {o : Obj} (G2 : Went w g vb W2 vb) (hlt : g < W2.heap.size)
    (R3 : Row w3 g 52 [v, .int .i64 (R : Int), .int .i64 ((L.length : Int) + 1)]) (hv : v.ownBlock = vb ∧ vb ≠ some g)
    (O3 : w3.ownsRow 0 3 1 v' (xs.length + 1) (rowV xs ++ [(Value.int .i64 (x))])) (G3 : (W2.alloc o).grownBy w3 v.ownBlock) (hat : v'.ownBlock = v.ownBlock ∨ v'.ownBlock = some (W2.heap.size + 1))
    (HH : HeldIn R L xs) (hx : xs.length < R) : ∃ vb', Ring (w3.setCell ⟨g, 0, none⟩ v') g vb' R (L ++ [x]) ∧ Went w g vb (w3.setCell ⟨g, 0, none⟩ v') vb' := by
  have hne : v'.ownBlock ≠ some g := by
    rcases hat with e | e
    · rw [e, hv.1]; exact hv.2
    · rw [e]; intro e2; injection e2 with e2; omega
  refine ⟨v'.ownBlock, ⟨v', xs ++ [x], ?_, ?_, HH.grow x hx, rfl, hne⟩, ?_⟩
  · rw [show ((L ++ [x]).length : Int) = (L.length : Int) + 1 by simp]
    exact R3.set 0 v'
  · rw [show rowV (xs ++ [x]) = rowV xs ++ [(Value.int .i64 (x))] by simp [rowV], show (xs ++ [x]).length = xs.length + 1 by simp]
    exact own_kept O3 (fun b hb => heap_setCell_other w3 _ b _ (fun e => hne (by rw [hb, e])))
  · refine G2.trans ?_
    rw [hv.1] at G3 hat
    refine ⟨G3.os, G3.tape, G3.output, ?_, fun k hk h1 h2 => ?_, ?_⟩
    · have := G3.size
      rw [World.size_alloc] at this
      simp
      omega
    · rw [heap_setCell_other w3 _ k _ h1, G3.block k (by rw [World.size_alloc]; omega) h2]
      exact Below.heap_alloc W2 o k hk
    · rcases hat with e | e
      · exact .inl e
      · exact .inr ⟨_, e, by omega⟩
theorem full_end {w W2 : World} {g b : Nat} {vb : Option Nat} {n c : Nat} {R : Nat} {L xs : List Int} {x : Int} (G2 : Went w g vb W2 vb)
    (R2 : Row W2 g 52 [.slice (some ⟨b, 0, none⟩) n c, .int .i64 (R : Int), .int .i64 ((L.length : Int) + 1)]) (hv : (Value.slice (some ⟨b, 0, none⟩) n c).ownBlock = vb ∧ vb ≠ some g)
    (O2 : W2.ownsRow 0 3 1 (.slice (some ⟨b, 0, none⟩) n c) n (rowV xs)) (hn : xs.length = n)
    (HH : HeldIn R L xs) (hx : ¬ xs.length < R) (hR : 0 < R) : ∃ vb', Ring (W2.setCell ⟨b, L.length % R, none⟩ (Value.int .i64 (x))) g vb' R (L ++ [x]) ∧ Went w g vb (W2.setCell ⟨b, L.length % R, none⟩ (Value.int .i64 (x))) vb' := by
  have hbv : vb = some b := hv.1.symm
  have hst := O2.stored (L.length % R) (Value.int .i64 (x))
  obtain ⟨_, _, _, hh⟩ := HH.full x hx hR
  refine ⟨vb, ⟨_, xs.set (L.length % R) x, ?_, ?_, hh, hv⟩, ?_⟩
  · rw [show ((L ++ [x]).length : Int) = (L.length : Int) + 1 by simp]
    exact R2.other (fun e => hv.2 (by rw [hbv, e])) _
  · rw [List.length_set, hn, show rowV (xs.set (L.length % R) x) = (rowV xs).set (L.length % R) (Value.int .i64 (x)) by simp [rowV, List.map_set]]
    exact hst.1
  · refine G2.trans ⟨hst.2.os, hst.2.tape, hst.2.output, hst.2.size, fun k hk h1 h2 => hst.2.block k hk (by rw [← hbv]; exact h2), .inl rfl⟩

set_option maxHeartbeats 4000000 in
theorem put_at (g : Nat) (vb : Option Nat) (R : Nat) (L : List Int) (x : Int) (w : World) (h : Ring w g vb R L) (hR : R ≤ 65536) (hL : L.length ≤ 900000) :
    Calls Try.prog 12 #[.pointer (some ⟨g, 0, none⟩), (Value.int .i64 (x))] w (PutOut w g vb R L x (outIn (0 : Int) R L x)) := by
  obtain ⟨v, xs, hrow, hown, hh, hvb, hne⟩ := h
  have h2 := hrow.cell (j := 2) rfl
  have f2 := hrow.frozen 2
  obtain ⟨W1, hW1⟩ : ∃ W, w.setCell ⟨g, 2, none⟩ (.int .i64 ((L.length : Int) + 1)) = W := ⟨_, rfl⟩
  have R1 := hrow.set 2 (.int .i64 ((L.length : Int) + 1))
  have O1 : W1.ownsRow 0 3 1 v xs.length (rowV xs) := own_kept hown (fun b hb => by rw [← hW1]; exact heap_setCell_other w _ b _ (fun e => hne (by rw [← hvb, hb, e])))
  have G1 := went_set w g 2 (.int .i64 ((L.length : Int) + 1)) vb
  rw [hW1] at R1 G1
  simp only [List.set_cons_succ, List.set_cons_zero] at R1
  have R1 := Lib.hid R1
  have O1 := Lib.hid O1
  have G1 := Lib.hid G1
  have HH := Lib.hid hh
  have HVB := Lib.hid (And.intro hvb hne)
  clear hrow hvb hne
  have r1 := R1.out.cell (j := 1) rfl
  obtain ⟨A, c, rfl⟩ := (Rd.of_own hown).form
  rw [rowV_len] at *
  have r0 := R1.out.cell (j := 0) rfl
  clear hown
  by_cases hR0 : R = 0
  · subst hR0
    have hout : outIn (0 : Int) 0 L x = (x, true) := by simp [outIn]
    rw [hout]
    clear hout hh r0
    go_enter Try.func12, Try.ntmps12
    go_wp2
    clear h2 f2 hW1
    refine bodyPost_ret (results_tmp2 rfl _ _ _) rfl ?_
    exact ⟨vb, rfl, ⟨_, xs, by rw [show ((L ++ [x]).length : Int) = (L.length : Int) + 1 by simp]; exact R1.out, O1.out, HH.out.none x, HVB.out⟩, G1.out⟩
  have hRne : ((R : Int) == 0) = false := by simp; omega
  by_cases hlt : xs.length < R
  · have hLR : L.length < R := by have := hh.1; omega
    have hout : outIn (0 : Int) R L x = ((0 : Int), false) := by simp [outIn, hLR]
    rw [hout]
    have hdec : decide (xs.length < R) = true := by simp; omega
    have HLT := Lib.hid hlt
    clear hout hh hLR hlt
    have hxl : xs.length ≤ 65536 := by have := HLT.out; omega
    obtain ⟨i, hi, hz, hs1, hb⟩ := infoT
    go_enter Try.func12, Try.ntmps12
    go_wp2
    clear h2 f2 hW1
    go_quiet (fail)
    have hgq := grown_drewn W1 nq
    generalize W1.drewN nq = W2 at *
    have R2 := Lib.hid (R1.out.grown0 hgq)
    have O2 := Lib.hid (own_kept O1.out (fun b hb => hgq.block b (by
      rcases O1.out.2 with ⟨e, _⟩ | ⟨g', cap, cur, e, _, hgg, _⟩
      · rw [e] at hb; cases hb
      · rw [e] at hb; cases hb; exact (Array.getElem?_eq_some_iff.1 hgg).1) (by simp)))
    have G2 := Lib.hid (G1.out.grown hgq)
    have r0' := R2.out.cell (j := 0) rfl
    clear R1 O1 G1 r0 r1 hgq
    go_wp2_with (at_builtin; refine wpList_append_rd _ rfl _ _ 22 rfl 0 3 i (Value.int .i64 ((0 : Int))) 8 Try.underlying22 hi hz hs1 hb rfl _ xs.length _ rfl (O2.out.alloc _) _ [(Value.int .i64 (x))] rfl (Rd.one W2 _ _) (by intro y hy; simp at hy; subst hy; rfl) (by simp; omega) (by simp; omega) (by omega) ?_)
    intro v' w3 ho hg hat
    obtain ⟨A', c', hf⟩ := (Rd.of_own ho).form
    rw [show (rowV xs ++ [(Value.int .i64 (x))]).length = xs.length + 1 by rw [List.length_append, rowV_len]; rfl] at hf
    subst hf
    have R3 := (R2.out.alloc (.cells #[(Value.int .i64 (x))] 3)).grown hg (by rw [HVB.out.1]; exact fun e => HVB.out.2 e.symm)
    have r0'' := R3.cell (j := 0) rfl
    have f3 := R3.frozen 0
    have R3 := Lib.hid R3
    have O3 := Lib.hid ho
    have G3 := Lib.hid hg
    have HAT := Lib.hid hat
    clear ho hg hat r0' O2
    go_wp2
    refine bodyPost_ret (results_tmp2 rfl _ _ _) rfl ?_
    obtain ⟨vb', e1, e2⟩ := grow_end G2.out R2.out.lt R3.out HVB.out O3.out G3.out HAT.out HH.out HLT.out
    exact ⟨vb', rfl, e1, e2⟩
  · have hpos : 0 < R := by omega
    obtain ⟨hp1, hp2, hp3, _⟩ := hh.full x hlt hpos
    have hnL : ¬ L.length < R := by have := hh.1; omega
    have hget : L[L.length - R]? = some (L.getD (L.length - R) (0 : Int)) := by rw [List.getD_eq_getElem?_getD, List.getElem?_eq_getElem (by omega)]; rfl
    have hout : outIn (0 : Int) R L x = (L.getD (L.length - R) (0 : Int), true) := by
      have : (L ++ [x])[L.length - R]? = L[L.length - R]? := List.getElem?_append_left (by omega)
      simp [outIn, hnL, List.getD_eq_getElem?_getD, this]
    rw [hout]
    rw [hget] at hp3
    generalize L.getD (L.length - R) (0 : Int) = y at *
    have hdec : decide (xs.length < R) = false := by simp; omega
    obtain ⟨b, cap, rfl, rfl⟩ : ∃ b cap, A = some ⟨b, 0, none⟩ ∧ c = cap := by
      rcases O1.out.2 with ⟨_, e⟩ | ⟨b, cap, cur, e, _⟩
      · omega
      · injection e with e1 _ e2
        exact ⟨b, cap, e1, e2⟩
    have HE := Lib.hid (show L.length + 1 - 1 - 0 = L.length by omega)
    have HP := Lib.hid (fun n => show Calls Try.prog 27 #[.pointer (some ⟨g, 0, none⟩), .int .i64 0] (W1.drewN n) (Saw (.int .i64 ((L.length % R : Nat) : Int)) (W1.drewN n)) by
      have := place_at g (.slice (some ⟨b, 0, none⟩) xs.length c) R (L.length + 1) 0 (W1.drewN n) (by rw [show ((L.length + 1 : Nat) : Int) = (L.length : Int) + 1 by omega]; exact R1.out) hpos hR (by omega) (by omega)
      rw [HE.out] at this
      exact this)
    have HPX := Lib.hid hp1
    have c1 := O1.out.cellAt (L.length % R) (by omega)
    rw [rowV_at xs _ _ hp3] at c1
    have f1 := O1.out.frozenAt (L.length % R)
    have HEND := Lib.hid (fun n => full_end (x := x) (G1.out.grown (grown_drewn W1 n)) (R1.out.drewN n) HVB.out (show (W1.drewN n).ownsRow 0 3 1 _ _ _ from O1.out) rfl HH.out hlt hpos)
    have hpx : ((L.length % R : Nat) : Int) < (xs.length : Int) := by omega
    clear hout hh hnL hlt hget hp3 HE hp2
    generalize hP : L.length % R = P at *
    clear hP
    go_enter Try.func12, Try.ntmps12
    go_wp2
    clear h2 f2 hW1
    go_quiet (fail)
    go_wp2_with fail
    refine (HP.out nq).mono ?_
    rintro e w3 ⟨rfl, m, hw3⟩
    rw [World.drewN_drewN] at hw3
    have HEND := Lib.hid (HEND.out (nq + m))
    rw [← hw3] at HEND
    have r3 : w3.cell? ⟨g, 0, none⟩ = some (.slice (some ⟨b, 0, none⟩) xs.length c) := by rw [hw3]; exact r0
    have c3 : w3.cell? ⟨b, P, none⟩ = some (Value.int .i64 (y)) := by rw [hw3]; exact c1
    have f3 : w3.frozen? ⟨b, P, none⟩ = false := by rw [hw3]; exact f1
    clear hw3 r0 r1 c1 f1 R1 O1 G1 HP
    go_wp2
    refine bodyPost_ret (results_tmp2 rfl _ _ _) rfl ?_
    obtain ⟨vb', e1, e2⟩ := HEND.out
    exact ⟨vb', rfl, e1, e2⟩
end Go.Proofs.Ytnbeakpmglefmaa.RingI
