/-
  stream.allQuarters over this program: all quarters of sixteen words.
-/
import Derived.Test.YtjcbdplbekecjaaStrFirst
namespace Go.Proofs.Ytjcbdplbekecjaa
open Go.RowKit

theorem qAt_of (s : List W32) (i j k l : Nat) (q : Q4) (h : qr ⟨s.getD i 0, s.getD j 0, s.getD k 0, s.getD l 0⟩ = q) : qAt s i j k l = (((s.set i q.a).set j q.b).set k q.c).set l q.d := by subst h; rfl
theorem Row.quarter {w : World} {g : Nat} {t : TypeId} {s : List W32} (hr : Row w g t (wordsV s)) (i j k l : Nat) (q : Q4) (h : qr ⟨s.getD i 0, s.getD j 0, s.getD k 0, s.getD l 0⟩ = q) :
    Row ((((w.setCell ⟨g, i, none⟩ (.int .u32 (q.a.toNat : Int))).setCell ⟨g, j, none⟩ (.int .u32 (q.b.toNat : Int))).setCell ⟨g, k, none⟩ (.int .u32 (q.c.toNat : Int))).setCell ⟨g, l, none⟩ (.int .u32 (q.d.toNat : Int))) g t (wordsV (qAt s i j k l)) := by
  rw [qAt_of s i j k l q h, ← wordsV_set, ← wordsV_set, ← wordsV_set, ← wordsV_set]
  exact (((hr.set i _).set j _).set k _).set l _
theorem grown_set4 (w : World) (g i j k l : Nat) (a b c d : Value) : w.grownBy ((((w.setCell ⟨g, i, none⟩ a).setCell ⟨g, j, none⟩ b).setCell ⟨g, k, none⟩ c).setCell ⟨g, l, none⟩ d) (some g) :=
  ((grown_set w g i _).trans (grown_set _ g j _)).trans ((grown_set _ g k _).trans (grown_set _ g l _))
/-- The row of words in block G, the answer's block behind it, and what was there ahead. -/
structure Qs (w : World) (G : Nat) (s : List W32) (W : World) : Prop where
  row : Row W G 64 (wordsV s)
  z : Row W (G + 1) 64 zeros16
  grow : w.grownBy W none
  len : s.length = 16
  base : w.heap.size = G
theorem Qs.cell {w W : World} {G : Nat} {s : List W32} (h : Qs w G s W) (i : Nat) (hi : i < 16) : ∃ x : W32, s.getD i 0 = x ∧ W.cell? ⟨G, i, none⟩ = some (.int .u32 (x.toNat : Int)) ∧ W.frozen? ⟨G, i, none⟩ = false :=
  ⟨_, rfl, h.row.cell (wordsV_getD s i (by rw [h.len]; exact hi)), h.row.frozen i⟩
theorem Qs.step {w W : World} {G : Nat} {s : List W32} (h : Qs w G s W) (i j k l : Nat) {x0 x1 x2 x3 : W32} (h0 : s.getD i 0 = x0) (h1 : s.getD j 0 = x1) (h2 : s.getD k 0 = x2) (h3 : s.getD l 0 = x3) {q : Q4} (hq : qr ⟨x0, x1, x2, x3⟩ = q) :
    Qs w G (qAt s i j k l) ((((W.setCell ⟨G, i, none⟩ (.int .u32 (q.a.toNat : Int))).setCell ⟨G, j, none⟩ (.int .u32 (q.b.toNat : Int))).setCell ⟨G, k, none⟩ (.int .u32 (q.c.toNat : Int))).setCell ⟨G, l, none⟩ (.int .u32 (q.d.toNat : Int))) := by
  subst h0 h1 h2 h3
  exact ⟨h.row.quarter i j k l q hq, h.z.grown (grown_set4 W G i j k l _ _ _ _) (by simp), grown_own h.grow (grown_set4 W G i j k l _ _ _ _) (by rw [h.base]; exact Nat.le_refl _), by rw [qAt_len, h.len], h.base⟩

set_option maxRecDepth 10000 in
set_option maxHeartbeats 8000000 in
theorem allQ_any (s : List W32) (hs : s.length = 16) (w : World) :
    Calls Try.prog 38 #[.agg (wordsV s).toArray] w (Val (.agg (wordsV (allQ s)).toArray) w) := by
  have hal : allQ s = qAt (qAt (qAt (qAt (qAt (qAt (qAt (qAt s 0 4 8 12) 1 5 9 13) 2 6 10 14) 3 7 11 15) 0 5 10 15) 1 6 11 12) 2 7 8 13) 3 4 9 14 := rfl
  rw [hal]
  clear hal
  generalize hG : w.heap.size = G
  obtain ⟨W0, hW0⟩ : ∃ W, (w.alloc (.cells (wordsV s).toArray 64)).alloc (.cells zeros16.toArray 64) = W := ⟨_, rfl⟩
  have H0 := Lib.hid (show Qs w G s W0 by
    rw [← hW0]
    exact ⟨(Row.newAt w _ (wordsV s) hG).alloc _, Row.newAt _ _ zeros16 (by simp [hG]), grown_alloc (grown_alloc (grown_refl _ _) _) _, hs, hG⟩)
  simp only [zeros16, List.replicate] at hW0
  clear hs
  obtain ⟨x0, hx0, c0, f0⟩ := H0.out.cell 0 (by decide)
  have X0 := Lib.hid hx0
  clear hx0
  obtain ⟨x1, hx1, c1, f1⟩ := H0.out.cell 4 (by decide)
  have X1 := Lib.hid hx1
  clear hx1
  obtain ⟨x2, hx2, c2, f2⟩ := H0.out.cell 8 (by decide)
  have X2 := Lib.hid hx2
  clear hx2
  obtain ⟨x3, hx3, c3, f3⟩ := H0.out.cell 12 (by decide)
  have X3 := Lib.hid hx3
  clear hx3
  go_enter Try.func38, Try.ntmps38
  go_wp2_with fail
  clear hG hW0
  refine (quarter_any ⟨x0, x1, x2, x3⟩ W0).mono ?_
  rintro e w1 ⟨rfl, hw1⟩
  rw [hw1]
  clear hw1 w1
  obtain ⟨q, hq⟩ : ∃ q, qr ⟨x0, x1, x2, x3⟩ = q := ⟨_, rfl⟩
  rw [hq]
  have H1 := Lib.hid (H0.out.step 0 4 8 12 X0.out X1.out X2.out X3.out hq)
  have d1 : ∀ v, (W0.setCell ⟨G, 0, none⟩ v).cell? ⟨G, 4, none⟩ = some (.int .u32 (x1.toNat : Int)) := fun v => by rw [cell_set_other _ _ _ _ _ (by decide), c1]
  have d2 : ∀ v u, ((W0.setCell ⟨G, 0, none⟩ v).setCell ⟨G, 4, none⟩ u).cell? ⟨G, 8, none⟩ = some (.int .u32 (x2.toNat : Int)) := fun v u => by rw [cell_set_other _ _ _ _ _ (by decide), cell_set_other _ _ _ _ _ (by decide), c2]
  have d3 : ∀ v u t, (((W0.setCell ⟨G, 0, none⟩ v).setCell ⟨G, 4, none⟩ u).setCell ⟨G, 8, none⟩ t).cell? ⟨G, 12, none⟩ = some (.int .u32 (x3.toNat : Int)) := fun v u t => by rw [cell_set_other _ _ _ _ _ (by decide), cell_set_other _ _ _ _ _ (by decide), cell_set_other _ _ _ _ _ (by decide), c3]
  clear hq X0 X1 X2 X3 c1 c2 c3
  generalize qAt s 0 4 8 12 = s1 at *
  obtain ⟨y0, hy0, a0, g0⟩ := H1.out.cell 1 (by decide)
  have Y0 := Lib.hid hy0
  clear hy0
  obtain ⟨y1, hy1, a1, g1⟩ := H1.out.cell 5 (by decide)
  have Y1 := Lib.hid hy1
  clear hy1
  obtain ⟨y2, hy2, a2, g2⟩ := H1.out.cell 9 (by decide)
  have Y2 := Lib.hid hy2
  clear hy2
  obtain ⟨y3, hy3, a3, g3⟩ := H1.out.cell 13 (by decide)
  have Y3 := Lib.hid hy3
  clear hy3
  go_wp2_with fail
  clear d1 d2 d3 c0 f0 f1 f2 f3
  generalize hW : (((W0.setCell ⟨G, 0, none⟩ _).setCell ⟨G, 4, none⟩ _).setCell ⟨G, 8, none⟩ _).setCell ⟨G, 12, none⟩ _ = W1 at *
  clear hW H0
  have c0 := a0
  have f0 := g0
  have X0 := Y0
  clear a0 g0 Y0
  have c1 := a1
  have f1 := g1
  have X1 := Y1
  clear a1 g1 Y1
  have c2 := a2
  have f2 := g2
  have X2 := Y2
  clear a2 g2 Y2
  have c3 := a3
  have f3 := g3
  have X3 := Y3
  clear a3 g3 Y3
  obtain ⟨x0, ex0⟩ : ∃ x, x = y0 := ⟨_, rfl⟩
  obtain ⟨x1, ex1⟩ : ∃ x, x = y1 := ⟨_, rfl⟩
  obtain ⟨x2, ex2⟩ : ∃ x, x = y2 := ⟨_, rfl⟩
  obtain ⟨x3, ex3⟩ : ∃ x, x = y3 := ⟨_, rfl⟩
  subst ex0 ex1 ex2 ex3
  refine (quarter_any ⟨x0, x1, x2, x3⟩ W1).mono ?_
  rintro e w1 ⟨rfl, hw1⟩
  rw [hw1]
  clear hw1 w1
  obtain ⟨q, hq⟩ : ∃ q, qr ⟨x0, x1, x2, x3⟩ = q := ⟨_, rfl⟩
  rw [hq]
  have H2 := Lib.hid (H1.out.step 1 5 9 13 X0.out X1.out X2.out X3.out hq)
  have d1 : ∀ v, (W1.setCell ⟨G, 1, none⟩ v).cell? ⟨G, 5, none⟩ = some (.int .u32 (x1.toNat : Int)) := fun v => by rw [cell_set_other _ _ _ _ _ (by decide), c1]
  have d2 : ∀ v u, ((W1.setCell ⟨G, 1, none⟩ v).setCell ⟨G, 5, none⟩ u).cell? ⟨G, 9, none⟩ = some (.int .u32 (x2.toNat : Int)) := fun v u => by rw [cell_set_other _ _ _ _ _ (by decide), cell_set_other _ _ _ _ _ (by decide), c2]
  have d3 : ∀ v u t, (((W1.setCell ⟨G, 1, none⟩ v).setCell ⟨G, 5, none⟩ u).setCell ⟨G, 9, none⟩ t).cell? ⟨G, 13, none⟩ = some (.int .u32 (x3.toNat : Int)) := fun v u t => by rw [cell_set_other _ _ _ _ _ (by decide), cell_set_other _ _ _ _ _ (by decide), cell_set_other _ _ _ _ _ (by decide), c3]
  clear hq X0 X1 X2 X3 c1 c2 c3
  generalize qAt s1 1 5 9 13 = s2 at *
  obtain ⟨y0, hy0, a0, g0⟩ := H2.out.cell 2 (by decide)
  have Y0 := Lib.hid hy0
  clear hy0
  obtain ⟨y1, hy1, a1, g1⟩ := H2.out.cell 6 (by decide)
  have Y1 := Lib.hid hy1
  clear hy1
  obtain ⟨y2, hy2, a2, g2⟩ := H2.out.cell 10 (by decide)
  have Y2 := Lib.hid hy2
  clear hy2
  obtain ⟨y3, hy3, a3, g3⟩ := H2.out.cell 14 (by decide)
  have Y3 := Lib.hid hy3
  clear hy3
  go_wp2_with fail
  clear d1 d2 d3 c0 f0 f1 f2 f3
  generalize hW : (((W1.setCell ⟨G, 1, none⟩ _).setCell ⟨G, 5, none⟩ _).setCell ⟨G, 9, none⟩ _).setCell ⟨G, 13, none⟩ _ = W2 at *
  clear hW H1
  have c0 := a0
  have f0 := g0
  have X0 := Y0
  clear a0 g0 Y0
  have c1 := a1
  have f1 := g1
  have X1 := Y1
  clear a1 g1 Y1
  have c2 := a2
  have f2 := g2
  have X2 := Y2
  clear a2 g2 Y2
  have c3 := a3
  have f3 := g3
  have X3 := Y3
  clear a3 g3 Y3
  obtain ⟨x0, ex0⟩ : ∃ x, x = y0 := ⟨_, rfl⟩
  obtain ⟨x1, ex1⟩ : ∃ x, x = y1 := ⟨_, rfl⟩
  obtain ⟨x2, ex2⟩ : ∃ x, x = y2 := ⟨_, rfl⟩
  obtain ⟨x3, ex3⟩ : ∃ x, x = y3 := ⟨_, rfl⟩
  subst ex0 ex1 ex2 ex3
  refine (quarter_any ⟨x0, x1, x2, x3⟩ W2).mono ?_
  rintro e w1 ⟨rfl, hw1⟩
  rw [hw1]
  clear hw1 w1
  obtain ⟨q, hq⟩ : ∃ q, qr ⟨x0, x1, x2, x3⟩ = q := ⟨_, rfl⟩
  rw [hq]
  have H3 := Lib.hid (H2.out.step 2 6 10 14 X0.out X1.out X2.out X3.out hq)
  have d1 : ∀ v, (W2.setCell ⟨G, 2, none⟩ v).cell? ⟨G, 6, none⟩ = some (.int .u32 (x1.toNat : Int)) := fun v => by rw [cell_set_other _ _ _ _ _ (by decide), c1]
  have d2 : ∀ v u, ((W2.setCell ⟨G, 2, none⟩ v).setCell ⟨G, 6, none⟩ u).cell? ⟨G, 10, none⟩ = some (.int .u32 (x2.toNat : Int)) := fun v u => by rw [cell_set_other _ _ _ _ _ (by decide), cell_set_other _ _ _ _ _ (by decide), c2]
  have d3 : ∀ v u t, (((W2.setCell ⟨G, 2, none⟩ v).setCell ⟨G, 6, none⟩ u).setCell ⟨G, 10, none⟩ t).cell? ⟨G, 14, none⟩ = some (.int .u32 (x3.toNat : Int)) := fun v u t => by rw [cell_set_other _ _ _ _ _ (by decide), cell_set_other _ _ _ _ _ (by decide), cell_set_other _ _ _ _ _ (by decide), c3]
  clear hq X0 X1 X2 X3 c1 c2 c3
  generalize qAt s2 2 6 10 14 = s3 at *
  obtain ⟨y0, hy0, a0, g0⟩ := H3.out.cell 3 (by decide)
  have Y0 := Lib.hid hy0
  clear hy0
  obtain ⟨y1, hy1, a1, g1⟩ := H3.out.cell 7 (by decide)
  have Y1 := Lib.hid hy1
  clear hy1
  obtain ⟨y2, hy2, a2, g2⟩ := H3.out.cell 11 (by decide)
  have Y2 := Lib.hid hy2
  clear hy2
  obtain ⟨y3, hy3, a3, g3⟩ := H3.out.cell 15 (by decide)
  have Y3 := Lib.hid hy3
  clear hy3
  go_wp2_with fail
  clear d1 d2 d3 c0 f0 f1 f2 f3
  generalize hW : (((W2.setCell ⟨G, 2, none⟩ _).setCell ⟨G, 6, none⟩ _).setCell ⟨G, 10, none⟩ _).setCell ⟨G, 14, none⟩ _ = W3 at *
  clear hW H2
  have c0 := a0
  have f0 := g0
  have X0 := Y0
  clear a0 g0 Y0
  have c1 := a1
  have f1 := g1
  have X1 := Y1
  clear a1 g1 Y1
  have c2 := a2
  have f2 := g2
  have X2 := Y2
  clear a2 g2 Y2
  have c3 := a3
  have f3 := g3
  have X3 := Y3
  clear a3 g3 Y3
  obtain ⟨x0, ex0⟩ : ∃ x, x = y0 := ⟨_, rfl⟩
  obtain ⟨x1, ex1⟩ : ∃ x, x = y1 := ⟨_, rfl⟩
  obtain ⟨x2, ex2⟩ : ∃ x, x = y2 := ⟨_, rfl⟩
  obtain ⟨x3, ex3⟩ : ∃ x, x = y3 := ⟨_, rfl⟩
  subst ex0 ex1 ex2 ex3
  refine (quarter_any ⟨x0, x1, x2, x3⟩ W3).mono ?_
  rintro e w1 ⟨rfl, hw1⟩
  rw [hw1]
  clear hw1 w1
  obtain ⟨q, hq⟩ : ∃ q, qr ⟨x0, x1, x2, x3⟩ = q := ⟨_, rfl⟩
  rw [hq]
  have H4 := Lib.hid (H3.out.step 3 7 11 15 X0.out X1.out X2.out X3.out hq)
  have d1 : ∀ v, (W3.setCell ⟨G, 3, none⟩ v).cell? ⟨G, 7, none⟩ = some (.int .u32 (x1.toNat : Int)) := fun v => by rw [cell_set_other _ _ _ _ _ (by decide), c1]
  have d2 : ∀ v u, ((W3.setCell ⟨G, 3, none⟩ v).setCell ⟨G, 7, none⟩ u).cell? ⟨G, 11, none⟩ = some (.int .u32 (x2.toNat : Int)) := fun v u => by rw [cell_set_other _ _ _ _ _ (by decide), cell_set_other _ _ _ _ _ (by decide), c2]
  have d3 : ∀ v u t, (((W3.setCell ⟨G, 3, none⟩ v).setCell ⟨G, 7, none⟩ u).setCell ⟨G, 11, none⟩ t).cell? ⟨G, 15, none⟩ = some (.int .u32 (x3.toNat : Int)) := fun v u t => by rw [cell_set_other _ _ _ _ _ (by decide), cell_set_other _ _ _ _ _ (by decide), cell_set_other _ _ _ _ _ (by decide), c3]
  clear hq X0 X1 X2 X3 c1 c2 c3
  generalize qAt s3 3 7 11 15 = s4 at *
  obtain ⟨y0, hy0, a0, g0⟩ := H4.out.cell 0 (by decide)
  have Y0 := Lib.hid hy0
  clear hy0
  obtain ⟨y1, hy1, a1, g1⟩ := H4.out.cell 5 (by decide)
  have Y1 := Lib.hid hy1
  clear hy1
  obtain ⟨y2, hy2, a2, g2⟩ := H4.out.cell 10 (by decide)
  have Y2 := Lib.hid hy2
  clear hy2
  obtain ⟨y3, hy3, a3, g3⟩ := H4.out.cell 15 (by decide)
  have Y3 := Lib.hid hy3
  clear hy3
  go_wp2_with fail
  clear d1 d2 d3 c0 f0 f1 f2 f3
  generalize hW : (((W3.setCell ⟨G, 3, none⟩ _).setCell ⟨G, 7, none⟩ _).setCell ⟨G, 11, none⟩ _).setCell ⟨G, 15, none⟩ _ = W4 at *
  clear hW H3
  have c0 := a0
  have f0 := g0
  have X0 := Y0
  clear a0 g0 Y0
  have c1 := a1
  have f1 := g1
  have X1 := Y1
  clear a1 g1 Y1
  have c2 := a2
  have f2 := g2
  have X2 := Y2
  clear a2 g2 Y2
  have c3 := a3
  have f3 := g3
  have X3 := Y3
  clear a3 g3 Y3
  obtain ⟨x0, ex0⟩ : ∃ x, x = y0 := ⟨_, rfl⟩
  obtain ⟨x1, ex1⟩ : ∃ x, x = y1 := ⟨_, rfl⟩
  obtain ⟨x2, ex2⟩ : ∃ x, x = y2 := ⟨_, rfl⟩
  obtain ⟨x3, ex3⟩ : ∃ x, x = y3 := ⟨_, rfl⟩
  subst ex0 ex1 ex2 ex3
  refine (quarter_any ⟨x0, x1, x2, x3⟩ W4).mono ?_
  rintro e w1 ⟨rfl, hw1⟩
  rw [hw1]
  clear hw1 w1
  obtain ⟨q, hq⟩ : ∃ q, qr ⟨x0, x1, x2, x3⟩ = q := ⟨_, rfl⟩
  rw [hq]
  have H5 := Lib.hid (H4.out.step 0 5 10 15 X0.out X1.out X2.out X3.out hq)
  have d1 : ∀ v, (W4.setCell ⟨G, 0, none⟩ v).cell? ⟨G, 5, none⟩ = some (.int .u32 (x1.toNat : Int)) := fun v => by rw [cell_set_other _ _ _ _ _ (by decide), c1]
  have d2 : ∀ v u, ((W4.setCell ⟨G, 0, none⟩ v).setCell ⟨G, 5, none⟩ u).cell? ⟨G, 10, none⟩ = some (.int .u32 (x2.toNat : Int)) := fun v u => by rw [cell_set_other _ _ _ _ _ (by decide), cell_set_other _ _ _ _ _ (by decide), c2]
  have d3 : ∀ v u t, (((W4.setCell ⟨G, 0, none⟩ v).setCell ⟨G, 5, none⟩ u).setCell ⟨G, 10, none⟩ t).cell? ⟨G, 15, none⟩ = some (.int .u32 (x3.toNat : Int)) := fun v u t => by rw [cell_set_other _ _ _ _ _ (by decide), cell_set_other _ _ _ _ _ (by decide), cell_set_other _ _ _ _ _ (by decide), c3]
  clear hq X0 X1 X2 X3 c1 c2 c3
  generalize qAt s4 0 5 10 15 = s5 at *
  obtain ⟨y0, hy0, a0, g0⟩ := H5.out.cell 1 (by decide)
  have Y0 := Lib.hid hy0
  clear hy0
  obtain ⟨y1, hy1, a1, g1⟩ := H5.out.cell 6 (by decide)
  have Y1 := Lib.hid hy1
  clear hy1
  obtain ⟨y2, hy2, a2, g2⟩ := H5.out.cell 11 (by decide)
  have Y2 := Lib.hid hy2
  clear hy2
  obtain ⟨y3, hy3, a3, g3⟩ := H5.out.cell 12 (by decide)
  have Y3 := Lib.hid hy3
  clear hy3
  go_wp2_with fail
  clear d1 d2 d3 c0 f0 f1 f2 f3
  generalize hW : (((W4.setCell ⟨G, 0, none⟩ _).setCell ⟨G, 5, none⟩ _).setCell ⟨G, 10, none⟩ _).setCell ⟨G, 15, none⟩ _ = W5 at *
  clear hW H4
  have c0 := a0
  have f0 := g0
  have X0 := Y0
  clear a0 g0 Y0
  have c1 := a1
  have f1 := g1
  have X1 := Y1
  clear a1 g1 Y1
  have c2 := a2
  have f2 := g2
  have X2 := Y2
  clear a2 g2 Y2
  have c3 := a3
  have f3 := g3
  have X3 := Y3
  clear a3 g3 Y3
  obtain ⟨x0, ex0⟩ : ∃ x, x = y0 := ⟨_, rfl⟩
  obtain ⟨x1, ex1⟩ : ∃ x, x = y1 := ⟨_, rfl⟩
  obtain ⟨x2, ex2⟩ : ∃ x, x = y2 := ⟨_, rfl⟩
  obtain ⟨x3, ex3⟩ : ∃ x, x = y3 := ⟨_, rfl⟩
  subst ex0 ex1 ex2 ex3
  refine (quarter_any ⟨x0, x1, x2, x3⟩ W5).mono ?_
  rintro e w1 ⟨rfl, hw1⟩
  rw [hw1]
  clear hw1 w1
  obtain ⟨q, hq⟩ : ∃ q, qr ⟨x0, x1, x2, x3⟩ = q := ⟨_, rfl⟩
  rw [hq]
  have H6 := Lib.hid (H5.out.step 1 6 11 12 X0.out X1.out X2.out X3.out hq)
  have d1 : ∀ v, (W5.setCell ⟨G, 1, none⟩ v).cell? ⟨G, 6, none⟩ = some (.int .u32 (x1.toNat : Int)) := fun v => by rw [cell_set_other _ _ _ _ _ (by decide), c1]
  have d2 : ∀ v u, ((W5.setCell ⟨G, 1, none⟩ v).setCell ⟨G, 6, none⟩ u).cell? ⟨G, 11, none⟩ = some (.int .u32 (x2.toNat : Int)) := fun v u => by rw [cell_set_other _ _ _ _ _ (by decide), cell_set_other _ _ _ _ _ (by decide), c2]
  have d3 : ∀ v u t, (((W5.setCell ⟨G, 1, none⟩ v).setCell ⟨G, 6, none⟩ u).setCell ⟨G, 11, none⟩ t).cell? ⟨G, 12, none⟩ = some (.int .u32 (x3.toNat : Int)) := fun v u t => by rw [cell_set_other _ _ _ _ _ (by decide), cell_set_other _ _ _ _ _ (by decide), cell_set_other _ _ _ _ _ (by decide), c3]
  clear hq X0 X1 X2 X3 c1 c2 c3
  generalize qAt s5 1 6 11 12 = s6 at *
  obtain ⟨y0, hy0, a0, g0⟩ := H6.out.cell 2 (by decide)
  have Y0 := Lib.hid hy0
  clear hy0
  obtain ⟨y1, hy1, a1, g1⟩ := H6.out.cell 7 (by decide)
  have Y1 := Lib.hid hy1
  clear hy1
  obtain ⟨y2, hy2, a2, g2⟩ := H6.out.cell 8 (by decide)
  have Y2 := Lib.hid hy2
  clear hy2
  obtain ⟨y3, hy3, a3, g3⟩ := H6.out.cell 13 (by decide)
  have Y3 := Lib.hid hy3
  clear hy3
  go_wp2_with fail
  clear d1 d2 d3 c0 f0 f1 f2 f3
  generalize hW : (((W5.setCell ⟨G, 1, none⟩ _).setCell ⟨G, 6, none⟩ _).setCell ⟨G, 11, none⟩ _).setCell ⟨G, 12, none⟩ _ = W6 at *
  clear hW H5
  have c0 := a0
  have f0 := g0
  have X0 := Y0
  clear a0 g0 Y0
  have c1 := a1
  have f1 := g1
  have X1 := Y1
  clear a1 g1 Y1
  have c2 := a2
  have f2 := g2
  have X2 := Y2
  clear a2 g2 Y2
  have c3 := a3
  have f3 := g3
  have X3 := Y3
  clear a3 g3 Y3
  obtain ⟨x0, ex0⟩ : ∃ x, x = y0 := ⟨_, rfl⟩
  obtain ⟨x1, ex1⟩ : ∃ x, x = y1 := ⟨_, rfl⟩
  obtain ⟨x2, ex2⟩ : ∃ x, x = y2 := ⟨_, rfl⟩
  obtain ⟨x3, ex3⟩ : ∃ x, x = y3 := ⟨_, rfl⟩
  subst ex0 ex1 ex2 ex3
  refine (quarter_any ⟨x0, x1, x2, x3⟩ W6).mono ?_
  rintro e w1 ⟨rfl, hw1⟩
  rw [hw1]
  clear hw1 w1
  obtain ⟨q, hq⟩ : ∃ q, qr ⟨x0, x1, x2, x3⟩ = q := ⟨_, rfl⟩
  rw [hq]
  have H7 := Lib.hid (H6.out.step 2 7 8 13 X0.out X1.out X2.out X3.out hq)
  have d1 : ∀ v, (W6.setCell ⟨G, 2, none⟩ v).cell? ⟨G, 7, none⟩ = some (.int .u32 (x1.toNat : Int)) := fun v => by rw [cell_set_other _ _ _ _ _ (by decide), c1]
  have d2 : ∀ v u, ((W6.setCell ⟨G, 2, none⟩ v).setCell ⟨G, 7, none⟩ u).cell? ⟨G, 8, none⟩ = some (.int .u32 (x2.toNat : Int)) := fun v u => by rw [cell_set_other _ _ _ _ _ (by decide), cell_set_other _ _ _ _ _ (by decide), c2]
  have d3 : ∀ v u t, (((W6.setCell ⟨G, 2, none⟩ v).setCell ⟨G, 7, none⟩ u).setCell ⟨G, 8, none⟩ t).cell? ⟨G, 13, none⟩ = some (.int .u32 (x3.toNat : Int)) := fun v u t => by rw [cell_set_other _ _ _ _ _ (by decide), cell_set_other _ _ _ _ _ (by decide), cell_set_other _ _ _ _ _ (by decide), c3]
  clear hq X0 X1 X2 X3 c1 c2 c3
  generalize qAt s6 2 7 8 13 = s7 at *
  obtain ⟨y0, hy0, a0, g0⟩ := H7.out.cell 3 (by decide)
  have Y0 := Lib.hid hy0
  clear hy0
  obtain ⟨y1, hy1, a1, g1⟩ := H7.out.cell 4 (by decide)
  have Y1 := Lib.hid hy1
  clear hy1
  obtain ⟨y2, hy2, a2, g2⟩ := H7.out.cell 9 (by decide)
  have Y2 := Lib.hid hy2
  clear hy2
  obtain ⟨y3, hy3, a3, g3⟩ := H7.out.cell 14 (by decide)
  have Y3 := Lib.hid hy3
  clear hy3
  go_wp2_with fail
  clear d1 d2 d3 c0 f0 f1 f2 f3
  generalize hW : (((W6.setCell ⟨G, 2, none⟩ _).setCell ⟨G, 7, none⟩ _).setCell ⟨G, 8, none⟩ _).setCell ⟨G, 13, none⟩ _ = W7 at *
  clear hW H6
  have c0 := a0
  have f0 := g0
  have X0 := Y0
  clear a0 g0 Y0
  have c1 := a1
  have f1 := g1
  have X1 := Y1
  clear a1 g1 Y1
  have c2 := a2
  have f2 := g2
  have X2 := Y2
  clear a2 g2 Y2
  have c3 := a3
  have f3 := g3
  have X3 := Y3
  clear a3 g3 Y3
  obtain ⟨x0, ex0⟩ : ∃ x, x = y0 := ⟨_, rfl⟩
  obtain ⟨x1, ex1⟩ : ∃ x, x = y1 := ⟨_, rfl⟩
  obtain ⟨x2, ex2⟩ : ∃ x, x = y2 := ⟨_, rfl⟩
  obtain ⟨x3, ex3⟩ : ∃ x, x = y3 := ⟨_, rfl⟩
  subst ex0 ex1 ex2 ex3
  refine (quarter_any ⟨x0, x1, x2, x3⟩ W7).mono ?_
  rintro e w1 ⟨rfl, hw1⟩
  rw [hw1]
  clear hw1 w1
  obtain ⟨q, hq⟩ : ∃ q, qr ⟨x0, x1, x2, x3⟩ = q := ⟨_, rfl⟩
  rw [hq]
  have H8 := Lib.hid (H7.out.step 3 4 9 14 X0.out X1.out X2.out X3.out hq)
  have d1 : ∀ v, (W7.setCell ⟨G, 3, none⟩ v).cell? ⟨G, 4, none⟩ = some (.int .u32 (x1.toNat : Int)) := fun v => by rw [cell_set_other _ _ _ _ _ (by decide), c1]
  have d2 : ∀ v u, ((W7.setCell ⟨G, 3, none⟩ v).setCell ⟨G, 4, none⟩ u).cell? ⟨G, 9, none⟩ = some (.int .u32 (x2.toNat : Int)) := fun v u => by rw [cell_set_other _ _ _ _ _ (by decide), cell_set_other _ _ _ _ _ (by decide), c2]
  have d3 : ∀ v u t, (((W7.setCell ⟨G, 3, none⟩ v).setCell ⟨G, 4, none⟩ u).setCell ⟨G, 9, none⟩ t).cell? ⟨G, 14, none⟩ = some (.int .u32 (x3.toNat : Int)) := fun v u t => by rw [cell_set_other _ _ _ _ _ (by decide), cell_set_other _ _ _ _ _ (by decide), cell_set_other _ _ _ _ _ (by decide), c3]
  clear hq X0 X1 X2 X3 c1 c2 c3
  generalize qAt s7 3 4 9 14 = s8 at *
  have HL := Lib.hid (show (wordsV s8).length = 16 by rw [wordsV_len, H8.out.len])
  have HO := Lib.hid (fun x hx => wordsV_one s8 x hx)
  have HR := Lib.hid H8.out.row
  have HZ := Lib.hid H8.out.z
  have HGG := Lib.hid H8.out.grow
  have HB := Lib.hid H8.out.base
  clear H7 H8
  generalize wordsV s8 = xs at *
  rename ∀ (a : Act) (w : World), Code.wp Try.prog _ _ a w → _ => hK
  have HK := Lib.hid hK
  clear hK
  go_wp2_with fail
  clear d1 d2 d3 c0 f0 f1 f2 f3
  refine HK.out _ _ ?_
  clear HK
  generalize hW : (((W7.setCell ⟨G, 3, none⟩ _).setCell ⟨G, 4, none⟩ _).setCell ⟨G, 9, none⟩ _).setCell ⟨G, 14, none⟩ _ = W8 at *
  clear hW
  go_wp2_with (first
    | refine wpList_load_row _ rfl _ 64 rfl G 64 xs _ rfl HR.out Try.underlying64 rfl (by rw [HL.out]; kernel_rfl) ?_
    | (refine wpList_store_row _ rfl rfl _ _ 64 rfl (G + 1) 64 zeros16 xs rfl rfl HZ.out (by rw [HL.out]; rfl) HO.out (by rw [HL.out]; kernel_rfl) ?_; intro w2 hr2 hg2))
  refine bodyPost_ret (v := .agg xs.toArray) ?_ rfl ⟨rfl, grown_own HGG.out hg2 (by have := HB.out; omega)⟩
  exact results_row Try.results38 (G + 1) 64 xs _ rfl hr2 Try.underlying64 rfl (by rw [HL.out]; kernel_rfl)
end Go.Proofs.Ytjcbdplbekecjaa
