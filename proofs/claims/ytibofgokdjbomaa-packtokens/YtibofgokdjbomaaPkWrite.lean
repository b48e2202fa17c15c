/-
  pack's Write over this program, of tokens that may stand so.
-/
import Derived.Test.YtibofgokdjbomaaMPkA
import Derived.Test.YtibofgokdjbomaaPkV
import Derived.Test.YtibofgokdjbomaaMCodW
namespace Go.Proofs.Ytibofgokdjbomaa
set_option maxRecDepth 1000000
open Go.RowKit

theorem run_buildM (w : World) : (Instr.build 87 #[]).run Try.prog w = .ok (.agg Try.zeroCells87) w := by kernel_rfl
section
variable {o : Oper} {a : Act} {w : World}
theorem ex_buildM (h : o.op = .build 87 #[]) : (execOp a.eval o).run Try.prog w = .ok (.value (.agg Try.zeroCells87)) w := by
  simp only [execOp, h]
  have := run_buildM w
  simp only [Array.map_empty]
  rw [Sem.run_bind, this]
  rfl
theorem ex_boxM {x : Operand} (h : o.op = .box 87 x) (hx : a.eval x = .agg Try.zeroCells87) : (execOp a.eval o).run Try.prog w = .ok (.value (.pointer (some ⟨w.heap.size, 0, none⟩))) (w.alloc (.cells Try.zeroCells87 87)) := by
  simp only [execOp, h, hx]
  simp [go_sem, Instr.box, newVar, newRow, Value.cells]
end
theorem newModel (w : World) : Mo (w.alloc (.cells Try.zeroCells87 87)) w.heap.size kst0 := by
  have e : Try.zeroCells87 = (chR (modR 0 []) (List.replicate 2322 1024)).toArray := by
    apply Array.ext'
    rw [zeroModel, zeros_all]
  rw [e]
  exact Row.new w _ _
theorem own_lowP {w : World} {base base' n : Nat} {e : TypeId} {v : Value} {xs : List Value} (h : w.ownsRow base e 1 v n xs) (hb : base' ≤ base) : w.ownsRow base' e 1 v n xs := by
  obtain ⟨h1, h2⟩ := h
  refine ⟨h1, ?_⟩
  rcases h2 with h2 | ⟨g, cap, cur, e1, e2, e3⟩
  · exact .inl h2
  · exact .inr ⟨g, cap, cur, e1, by omega, e3⟩
/-- A writer and a model, in the midst of Write. -/
structure WrS (w W : World) (g gm : Nat) (vb : Option Nat) (p : Pst) : Prop where
  wt : Wt W g vb p.s
  mo : Mo W gm p.x
  ne : gm ≠ g ∧ vb ≠ some gm
  new : w.heap.size ≤ g ∧ w.heap.size ≤ gm ∧ ∀ b, vb = some b → w.heap.size ≤ b
  grow : w.grownBy W none
theorem WrS.grown0 {w W W' : World} {g gm : Nat} {vb : Option Nat} {p : Pst} (h : WrS w W g gm vb p) (hg : W.grownBy W' none) : WrS w W' g gm vb p := ⟨h.wt.grown0 hg, h.mo.grown0 hg, h.ne, h.new, h.grow.trans hg⟩
theorem WrS.put {w W W' : World} {g gm : Nat} {vb vb' : Option Nat} {p : Pst} {s : Cst} {x : Kst} (h : WrS w W g gm vb p) (ht : Wt W' g vb' s) (hm : Mo W' gm x) (hn : Wn [g, gm] W vb W' vb') (hv : vb' ≠ some gm) : WrS w W' g gm vb' ⟨s, x⟩ := by
  obtain ⟨n1, n2, n3⟩ := h.new
  refine ⟨ht, hm, ⟨h.ne.1, hv⟩, ⟨n1, n2, fun b hb => ?_⟩, Wn.new h.grow hn (fun b hb => by simp at hb; omega) n3⟩
  rcases hn.row with e | ⟨k, e, hk⟩
  · rw [e] at hb; exact n3 b hb
  · rw [e] at hb; cases hb; exact Nat.le_trans h.grow.size hk
theorem WrS.pass {w W W' : World} {g gm : Nat} {vb : Option Nat} {p : Pst} {x : Kst} (h : WrS w W g gm vb p) (hm : Mo W' gm x) (hg : W.grownBy W' (some gm)) : WrS w W' g gm vb ⟨p.s, x⟩ := by
  exact ⟨h.wt.grown hg (fun e => by cases e; exact h.ne.1 rfl) (fun b hb e => by cases e; exact h.ne.2 hb), hm, h.ne, h.new, grown_own h.grow hg h.new.2.1⟩
set_option maxHeartbeats 8000000 in
theorem write_any (l : List Tok) (v : Value) (w : World) (hv : RdT w v l) (he : (expand l).2 = 0) :
    Calls Try.prog 18 #[v] w (OutO w (writeS l)) := by
  obtain ⟨A, c, rfl⟩ := hv.form
  have HV := Lib.hid hv
  have HL := Lib.hid (expand_few he)
  have HE := Lib.hid he
  clear hv he
  obtain ⟨n, hn⟩ : ∃ n, l.length = n := ⟨_, rfl⟩
  have HN := Lib.hid hn
  rw [hn] at HL HV ⊢
  clear hn
  go_enter Try.func18, Try.ntmps18
  go_wp2_with fail
  refine (begin_any w).mono ?_
  rintro e w1 ⟨g, rfl, ht1, hge1, hg1⟩
  have H1 := Lib.hid (And.intro ht1 (And.intro hge1 hg1))
  clear ht1 hge1 hg1
  go_wp2_with (first | (refine wpList_runs rfl (ex_buildM rfl) ?_) | (refine wpList_runs rfl (ex_boxM rfl rfl) ?_))
  have HM2 := Lib.hid (newModel w1)
  obtain ⟨W2, hW2⟩ : ∃ W, w1.alloc (.cells Try.zeroCells87 87) = W := ⟨_, rfl⟩
  obtain ⟨gm, hgm⟩ : ∃ g, w1.heap.size = g := ⟨_, rfl⟩
  have hg2 : w1.grownBy W2 none := by rw [← hW2]; exact grown_alloc (grown_refl _ _) _
  rw [hW2, hgm] at HM2
  try rw [hW2]
  try rw [hgm]
  have HS := Lib.hid (show WrS w W2 g gm none pst0 from ⟨H1.out.1.grown0 hg2, HM2.out, ⟨fun e => by have := H1.out.1.lt; omega, by simp⟩, ⟨H1.out.2.1, by have := H1.out.2.2.size; omega, by simp⟩, H1.out.2.2.trans hg2⟩)
  clear hW2 hgm hg2 HM2 H1
  go_loopw [12] (fun i W => ∃ (k : Nat) (vb : Option Nat), k ≤ n ∧ i = .int .i64 k ∧ WrS w W g gm vb (putsP pst0 (l.take k))) (fun i _ => n - (intOf i).toNat)
  case atStart => exact ⟨0, none, Nat.zero_le _, rfl, HS.out⟩
  case round =>
    obtain ⟨k, vb, hk, rfl, hh⟩ := hrel
    have HH := Lib.hid hh
    clear hh HS
    by_cases hlt : k < n
    · have hkl : k < l.length := by rw [HN.out]; exact hlt
      have hd : decide ((k : Int) < (n : Int)) = true := by simp; omega
      have hnn := HL.out
      have HAT := Lib.hid (at_k HE.out k hkl)
      have HNX := Lib.hid (putsP_take l pst0 k hkl)
      obtain ⟨ad, t, rfl, ht, c0, c1, c2⟩ := (HV.out.grown0 HH.out.grow).tok hkl
      have HOK := Lib.hid HAT.out.ok
      have HR0 := Lib.hid HAT.out.r
      have HB0 := Lib.hid HAT.out.b
      have HN0 := Lib.hid HAT.out.n
      have HO0 := Lib.hid HAT.out.o
      rw [ht] at HR0 HB0 HNX
      obtain ⟨P1, hP1⟩ : ∃ P, putsP pst0 (l.take (k + 1)) = P := ⟨_, rfl⟩
      have HP1 := Lib.hid hP1
      rw [hP1] at HNX
      generalize putsP pst0 (l.take k) = P at *
      have HR := Lib.hid (fun w => right_any t w)
      rw [HR0.out] at HR
      have RN := Lib.hid (Row.new wr 37 (tokC t))
      have HGA := Lib.hid (grown_alloc (grown_refl wr none) (.cells (tokC t).toArray 37))
      obtain ⟨gt, hgt⟩ : ∃ g, wr.heap.size = g := ⟨_, rfl⟩
      have HNE := Lib.hid (show gt ≠ g ∧ gt ≠ gm ∧ vb ≠ some gt from ⟨fun e => by have := HH.out.wt.lt; omega, fun e => by have := HH.out.mo.lt; omega, fun e => by have := HH.out.wt.row_lt gt e; omega⟩)
      rw [hgt] at RN
      clear ht hP1 HAT
      go_wp2_with fail
      refine (HR.out _).mono ?_
      rintro e w3 ⟨rfl, hg3⟩
      have R3 := RN.out.grown0 hg3
      have HS3 := Lib.hid (HH.out.grown0 (HGA.out.trans hg3))
      have d0 := R3.cell (j := 0) rfl
      have d1 := R3.cell (j := 1) rfl
      have d2 := R3.cell (j := 2) rfl
      have HR3 := Lib.hid R3
      have HPUT := Lib.hid (putM_at g vb P.s gm P.x t w3 HS3.out.wt HOK.out.s (by have := HO0.out; omega) HS3.out.mo HOK.out.x HR0.out (by have := HN0.out; omega) HS3.out.ne)
      have HPK := Lib.hid (putT_ok t HOK.out.s HOK.out.x)
      have HNP := Lib.hid (show P1 = ⟨(putT P.s P.x t).1, nextK P.x (putT P.s P.x t).2 t⟩ from HNX.out)
      generalize putT P.s P.x t = S at *
      clear hg3 R3 RN HGA HR c0 c1 c2 hgt HNX
      go_wp2_with fail
      refine HPUT.out.mono ?_
      rintro e w4 ⟨rfl, vb4, ht4, hm4, hn4, hv4⟩
      have HS4 := Lib.hid (HS3.out.put ht4 hm4 hn4 hv4)
      have R4 := HR3.out.wn hn4 (by simp; exact ⟨HNE.out.1, HNE.out.2.1⟩) (fun e => HNE.out.2.2 e.symm)
      have HPS := Lib.hid (pass_at gm ⟨S.2, P.x.kind, P.x.h⟩ t w4 hm4 HPK.out.2.2 HR0.out HB0.out HN0.out)
      clear d0 d1 d2
      have d0 := R4.cell (j := 0) rfl
      have d1 := R4.cell (j := 1) rfl
      have d2 := R4.cell (j := 2) rfl
      clear ht4 hm4 hn4 hv4 R4 HR3 HPUT
      go_wp2_with fail
      refine HPS.out.mono ?_
      rintro e w5 ⟨rfl, hm5, hg5⟩
      have HS5 := Lib.hid (show WrS w w5 g gm vb4 P1 by rw [HNP.out]; exact HS4.out.pass hm5 hg5)
      clear hm5 hg5 d0 d1 d2 HPS HS4
      go_wp2
      go_roundw
      case rel => exact ⟨k + 1, vb4, by omega, by go_num, by rw [HP1.out]; exact HS5.out⟩
      case measure => simp only [intOf]; omega
    · obtain rfl : k = n := by omega
      have hd : decide ((k : Int) < (k : Int)) = false := by simp
      have HO := Lib.hid (putsP_ok l pst0_ok)
      have HOL := Lib.hid (putsP_out HE.out l.length (Nat.le_refl _))
      rw [List.take_of_length_le (by rw [HN.out]; exact Nat.le_refl _)] at HH
      rw [List.take_length] at HOL
      have HEND := Lib.hid (end_at g vb (putsP pst0 l).s wr HH.out.wt HO.out.s.ok (by have := HOL.out; have := HL.out; have := HN.out; omega))
      rw [show endS (putsP pst0 l).s = writeS l from rfl] at HEND
      go_wp2_with fail
      refine HEND.out.mono ?_
      rintro e w3 ⟨u, rfl, ho, vb3, ht3, hn3⟩
      have HG := Lib.hid (Wn.new HH.out.grow hn3 (fun b hb => by rw [List.mem_singleton.1 hb]; exact HH.out.new.1) HH.out.new.2.2)
      have HOW := Lib.hid (own_lowP ho HH.out.grow.size)
      clear ho ht3 hn3
      go_wp2
      go_ret
      exact ⟨u, rfl, HOW.out, HG.out⟩
end Go.Proofs.Ytibofgokdjbomaa
