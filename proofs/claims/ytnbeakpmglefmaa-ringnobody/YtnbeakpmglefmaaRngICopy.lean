/-
  slices.Clone of numbers, and ring's Copy, over this program.
-/
import Derived.Test.YtnbeakpmglefmaaRngIPut
import Derived.Test.YtnbeakpmglefmaaRegBase
namespace Go.Proofs.Ytnbeakpmglefmaa.RingI
open Go.RowKit

/-- A row of its own, with these things, new since w0. -/
def NewRow (w0 : World) (xs : List Int) (u : Value) (W : World) : Prop := W.ownsRow 0 3 1 u xs.length (rowV xs) ∧ ∀ b, u.ownBlock = some b → w0.heap.size ≤ b ∧ b < W.heap.size
theorem NewRow.grown0 {w0 : World} {xs : List Int} {u : Value} {W W' : World} (h : NewRow w0 xs u W) (hg : W.grownBy W' none) : NewRow w0 xs u W' :=
  ⟨own_kept h.1 (fun b hb => hg.block b (h.2 b hb).2 (by simp)), fun b hb => ⟨(h.2 b hb).1, Nat.lt_of_lt_of_le (h.2 b hb).2 hg.size⟩⟩
def CloneOut (w : World) (xs : List Int) (e : Ending) (w' : World) : Prop := ∃ u, e = .returned u ∧ w.grownBy w' none ∧ NewRow w xs u w'
set_option maxHeartbeats 1000000 in
theorem clone_any (v : Value) (xs : List Int) (w : World) (hv : Rd w v (rowV xs)) (hl : xs.length ≤ 1000000) :
    Calls Try.prog 31 #[v] w (CloneOut w xs) := by
  have hv0 := hv
  obtain ⟨A, c, rfl, h1, h2, h3⟩ := hv
  cases A with
  | none =>
    have hl0 : xs = [] := by
      rcases xs with _ | ⟨x, l⟩
      · rfl
      · obtain ⟨ad, h, _⟩ := h3 (by simp [rowV]); cases h
    subst hl0
    have hnil := fun W => Lib.run_eql_slice_nil (P := Try.prog) W 22 3 none 0 c 0 0 Try.underlying22
    show Calls Try.prog 31 #[.slice none 0 c] w _
    clear h1 h2 h3 hv0
    go_enter Try.func31, Try.ntmps31
    go_wp2
    go_ret
    exact ⟨_, rfl, grown_refl _ _, ⟨rfl, .inl ⟨rfl, rfl⟩⟩, fun b hb => by cases hb⟩
  | some ad =>
    have hnil := fun W => Lib.run_eql_slice_nil (P := Try.prog) W 22 3 (some ad) (rowV xs).length c 0 0 Try.underlying22
    clear h3 h1 h2
    have hn : (rowV xs).length = xs.length := rowV_len xs
    generalize (rowV xs).length = n at *
    have HN := Lib.hid hn
    clear hn
    obtain ⟨i, hi, hz, hs, hb⟩ := infoT
    have HI := Lib.hid (And.intro hi (And.intro hz (And.intro hs hb)))
    clear hb hi hz hs
    go_enter Try.func31, Try.ntmps31
    go_wp2_with (at_builtin; refine wpList_append_rd _ rfl _ _ _ rfl w.heap.size 3 i (.int .i64 0) 8 Try.underlying22 HI.out.1 HI.out.2.1 HI.out.2.2.1 HI.out.2.2.2 rfl _ 0 [] rfl ?_ _ (rowV xs) rfl ?_ (rowV_one xs) ?_ ?_ ?_ ?_)
    · exact World.ownsRow_made _ _ _ (Nat.le_refl _) (Nat.zero_le _) rfl
    · exact hv0.grown0 (grown_alloc (grown_refl _ _) _)
    · rw [rowV_len]; omega
    · rw [rowV_len]; omega
    · simp
    · intro v' w' ho hg hat
      go_wp2
      go_ret
      rw [rowV_len] at ho
      try simp only [Nat.zero_add, List.nil_append] at ho
      refine ⟨_, rfl, grown_new (grown_alloc (grown_refl _ _) _) hg ?_, ⟨ho.1, ?_⟩, fun b hb => ho.lt b hb⟩
      · intro b hb
        simp [Value.ownBlock] at hb
        omega
      · rcases ho.2 with h | ⟨g, cap, cur, h1, _, h2⟩
        · exact .inl h
        · exact .inr ⟨g, cap, cur, h1, Nat.zero_le _, h2⟩

section
variable {o : Oper} {a : Act} {w : World}
theorem ex_nil {x : Operand} {p : Addr} (h : o.op = .nilCheck x) (hx : a.eval x = .pointer (some p)) : (execOp a.eval o).run Try.prog w = .ok (.value (.pointer (some p))) w := by
  simp only [execOp, h, hx]
  simp [go_sem]
theorem ex_field0 {x : Operand} {g : Nat} (h : o.op = .fieldAddr 52 x 0) (hx : a.eval x = .pointer (some ⟨g, 0, none⟩)) : (execOp a.eval o).run Try.prog w = .ok (.value (.pointer (some ⟨g, 0, none⟩))) w := by
  simp only [execOp, h, hx]
  kernel_rfl
theorem ex_field1 {x : Operand} {g : Nat} (h : o.op = .fieldAddr 52 x 1) (hx : a.eval x = .pointer (some ⟨g, 0, none⟩)) : (execOp a.eval o).run Try.prog w = .ok (.value (.pointer (some ⟨g, 1, none⟩))) w := by
  simp only [execOp, h, hx]
  kernel_rfl
theorem ex_field2 {x : Operand} {g : Nat} (h : o.op = .fieldAddr 52 x 2) (hx : a.eval x = .pointer (some ⟨g, 0, none⟩)) : (execOp a.eval o).run Try.prog w = .ok (.value (.pointer (some ⟨g, 2, none⟩))) w := by
  simp only [execOp, h, hx]
  kernel_rfl
theorem ex_cellI {x : Operand} {p : Addr} {v : Value} (h : o.op = .load 3 x) (hx : a.eval x = .pointer (some p)) (hc : w.cell? p = some v) : (execOp a.eval o).run Try.prog w = .ok (.value v) w := by
  simp only [execOp, h, hx]
  simp [go_sem, hc]
theorem ex_cellS {x : Operand} {p : Addr} {v : Value} (h : o.op = .load 22 x) (hx : a.eval x = .pointer (some p)) (hc : w.cell? p = some v) : (execOp a.eval o).run Try.prog w = .ok (.value v) w := by
  simp only [execOp, h, hx]
  simp [go_sem, hc]
theorem ex_build {x y z : Operand} {A : Option Addr} {n c : Nat} {r m : Int} (h : o.op = .build 52 #[(0, x), (1, y), (2, z)]) (hx : a.eval x = .slice A n c) (hy : a.eval y = .int .i64 r) (hz : a.eval z = .int .i64 m) :
    (execOp a.eval o).run Try.prog w = .ok (.value (.agg #[.slice A n c, .int .i64 r, .int .i64 m])) w := by
  simp only [execOp, h]
  simp only [List.map_toArray, List.map_cons, List.map_nil, hx, hy, hz]
  kernel_rfl
theorem ex_box {x : Operand} {A : Option Addr} {n c : Nat} {r m : Int} (h : o.op = .box 52 x) (hx : a.eval x = .agg #[.slice A n c, .int .i64 r, .int .i64 m]) :
    (execOp a.eval o).run Try.prog w = .ok (.value (.pointer (some ⟨w.heap.size, 0, none⟩))) (w.alloc (.cells #[.slice A n c, .int .i64 r, .int .i64 m] 52)) := by
  simp only [execOp, h, hx]
  kernel_rfl
end

/-- A ring of its own, with the same things, new since w0. -/
def BuiltP (w0 : World) (xs : List Int) (R M : Nat) (u : Value) (W : World) : Prop := ∃ v, NewRow w0 xs v W ∧ u = .agg #[v, .int .i64 (R : Int), .int .i64 (M : Int)]
def BoxedP (w0 : World) (xs : List Int) (R M : Nat) (u : Value) (W : World) : Prop :=
  ∃ c v, NewRow w0 xs v W ∧ u = .pointer (some ⟨c, 0, none⟩) ∧ Row W c 52 [v, .int .i64 (R : Int), .int .i64 (M : Int)] ∧ w0.heap.size ≤ c ∧ v.ownBlock ≠ some c
theorem lasts_new (w0 : World) (xs : List Int) : Lasts none (NewRow w0 xs) := fun _ _ _ h hg => h.grown0 hg
theorem lasts_built (w0 : World) (xs : List Int) (R M : Nat) : Lasts none (BuiltP w0 xs R M) := fun _ _ _ ⟨v, h, e⟩ hg => ⟨v, h.grown0 hg, e⟩
theorem lasts_boxed (w0 : World) (xs : List Int) (R M : Nat) : Lasts none (BoxedP w0 xs R M) := fun _ _ _ ⟨c, v, h, e, hr, h1, h2⟩ hg => ⟨c, v, h.grown0 hg, e, hr.grown0 hg, h1, h2⟩
/-- What Copy answers. -/
def CopyOut (w : World) (R : Nat) (L : List Int) (e : Ending) (w' : World) : Prop :=
  ∃ c vc, e = .returned (.pointer (some ⟨c, 0, none⟩)) ∧ Ring w' c vc R L ∧ w.grownBy w' none ∧ w.heap.size ≤ c ∧ ∀ b, vc = some b → w.heap.size ≤ b
set_option maxHeartbeats 2000000 in
theorem copy_at (g : Nat) (vb : Option Nat) (R : Nat) (L : List Int) (w : World) (h : Ring w g vb R L) (hL : L.length ≤ 1000000) :
    Calls Try.prog 24 #[.pointer (some ⟨g, 0, none⟩)] w (CopyOut w R L) := by
  obtain ⟨v, xs, hrow, hown, hh, hvb, hne⟩ := h
  have HR := Lib.hid hrow
  have HV := Lib.hid (Rd.of_own hown)
  have HH := Lib.hid hh
  have HL := Lib.hid (show xs.length ≤ 1000000 by have := hh.1; omega)
  clear hrow hown hvb hne hh hL
  go_enter Try.func24, Try.ntmps24
  go_wp2_with fail
  refine wp_region_steps none (by kernel_rfl) (by kernel_rfl) (by kernel_rfl) ?_
  refine Steps.val (G := Is (.pointer (some ⟨g, 0, none⟩))) (lasts_is _) rfl (fun a w hm hd => ⟨wanted_plain rfl, _, ex_move rfl, (by rw [hm.outer 0 (by kernel_rfl)]; rfl)⟩) ?_
  refine Steps.val (G := Is (.pointer (some ⟨g, 0, none⟩))) (lasts_is _) rfl (fun a w hm hd => ⟨wanted_plain rfl, _, ex_nil rfl (hd.at_ 0 rfl rfl rfl), rfl⟩) ?_
  refine Steps.val (G := Is (.pointer (some ⟨g, 0, none⟩))) (lasts_is _) rfl (fun a w hm hd => ⟨wanted_plain rfl, _, ex_field0 rfl (hd.at_ 1 rfl rfl rfl), rfl⟩) ?_
  refine Steps.val (G := Is v) (lasts_is _) rfl (fun a w hm hd => ⟨wanted_plain rfl, _, ex_cellS rfl (hd.at_ 2 rfl rfl rfl) ((HR.out.grown0 hm.grow).cell (j := 0) rfl), rfl⟩) ?_
  refine Steps.call (G := NewRow w xs) (lasts_new _ _) rfl 31 (fun a w1 hm hd => ⟨wanted_plain rfl, _, ex_call1 Try.func31 (by kernel_rfl) (by kernel_rfl) rfl, by
    rw [show a.eval (.tmp 8) = _ from (hd.at_ 3 rfl rfl rfl)]
    refine (clone_any v xs w1 (HV.out.grown0 hm.grow) HL.out).mono ?_
    rintro e w2 ⟨u, rfl, hg2, ho⟩
    exact ⟨_, rfl, hg2, ho.1, fun b hb => ⟨Nat.le_trans hm.grow.size (ho.2 b hb).1, (ho.2 b hb).2⟩⟩⟩) ?_
  refine Steps.val (G := Is (.pointer (some ⟨g, 0, none⟩))) (lasts_is _) rfl (fun a w hm hd => ⟨wanted_plain rfl, _, ex_move rfl, (by rw [hm.outer 0 (by kernel_rfl)]; rfl)⟩) ?_
  refine Steps.val (G := Is (.pointer (some ⟨g, 0, none⟩))) (lasts_is _) rfl (fun a w hm hd => ⟨wanted_plain rfl, _, ex_nil rfl (hd.at_ 5 rfl rfl rfl), rfl⟩) ?_
  refine Steps.val (G := Is (.pointer (some ⟨g, 1, none⟩))) (lasts_is _) rfl (fun a w hm hd => ⟨wanted_plain rfl, _, ex_field1 rfl (hd.at_ 6 rfl rfl rfl), rfl⟩) ?_
  refine Steps.val (G := Is (.int .i64 (R : Int))) (lasts_is _) rfl (fun a w hm hd => ⟨wanted_plain rfl, _, ex_cellI rfl (hd.at_ 7 rfl rfl rfl) ((HR.out.grown0 hm.grow).cell (j := 1) rfl), rfl⟩) ?_
  refine Steps.val (G := Is (.pointer (some ⟨g, 0, none⟩))) (lasts_is _) rfl (fun a w hm hd => ⟨wanted_plain rfl, _, ex_move rfl, (by rw [hm.outer 0 (by kernel_rfl)]; rfl)⟩) ?_
  refine Steps.val (G := Is (.pointer (some ⟨g, 0, none⟩))) (lasts_is _) rfl (fun a w hm hd => ⟨wanted_plain rfl, _, ex_nil rfl (hd.at_ 9 rfl rfl rfl), rfl⟩) ?_
  refine Steps.val (G := Is (.pointer (some ⟨g, 2, none⟩))) (lasts_is _) rfl (fun a w hm hd => ⟨wanted_plain rfl, _, ex_field2 rfl (hd.at_ 10 rfl rfl rfl), rfl⟩) ?_
  refine Steps.val (G := Is (.int .i64 (L.length : Int))) (lasts_is _) rfl (fun a w hm hd => ⟨wanted_plain rfl, _, ex_cellI rfl (hd.at_ 11 rfl rfl rfl) ((HR.out.grown0 hm.grow).cell (j := 2) rfl), rfl⟩) ?_
  refine Steps.val (G := BuiltP w xs R L.length) (lasts_built _ _ _ _) rfl (fun a w1 hm hd => ⟨wanted_plain rfl, by
    have h4 : NewRow w xs (a.eval (.tmp 9)) w1 := (hd.at_ 4 rfl rfl rfl)
    obtain ⟨A, c, hf⟩ := (Rd.of_own h4.1).form
    exact ⟨_, ex_build rfl hf (hd.at_ 8 rfl rfl rfl) (hd.at_ 12 rfl rfl rfl), a.eval (.tmp 9), h4, by rw [hf]⟩⟩) ?_
  refine Steps.make (G := BoxedP w xs R L.length) (lasts_boxed _ _ _ _) rfl (fun a w1 hm hd => ⟨wanted_plain rfl, by
    obtain ⟨v', h4, h5⟩ : BuiltP w xs R L.length (a.eval (.tmp 18)) w1 := (hd.at_ 13 rfl rfl rfl)
    obtain ⟨A, c, hf⟩ := (Rd.of_own h4.1).form
    rw [hf] at h5
    refine ⟨_, _, ex_box rfl h5, grown_alloc (grown_refl _ _) _, w1.heap.size, v', h4.grown0 (grown_alloc (grown_refl _ _) _), rfl, ?_, hm.grow.size, fun e => by have := (h4.2 _ e).2; omega⟩
    rw [hf]
    exact Row.new w1 _ _⟩) ?_
  refine Steps.val (G := BoxedP w xs R L.length) (lasts_boxed _ _ _ _) rfl (fun a w hm hd => ⟨wanted_plain rfl, _, ex_assign rfl, (hd.at_ 14 rfl rfl rfl)⟩) ?_
  intro a w1 hmid hall
  obtain ⟨c, v', h4, h5, h6, h7, h8⟩ : BoxedP w xs R L.length (a.eval (.tmp 2)) w1 := hall 15 _ 2 rfl rfl
  have hdf : a.defers = [] := hmid.defers
  have hgr := hmid.grow
  clear hall hmid
  obtain ⟨tm, df⟩ := a
  simp only at hdf
  subst hdf
  have H := Lib.hid (show CopyOut w R L (.returned (Act.eval ⟨tm, []⟩ (.tmp 2))) w1 from ⟨c, v'.ownBlock, congrArg Ending.returned h5, ⟨v', xs, h6, h4.1, HH.out, rfl, h8⟩, hgr, h7, fun b hb => (h4.2 b hb).1⟩)
  clear h4 h5 h6 h7 h8 hgr
  go_wp2
  go_ret
  exact H.out
end Go.Proofs.Ytnbeakpmglefmaa.RingI
