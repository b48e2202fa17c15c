/-
  Several texts in one file.
-/
import Derived.Test.YtibofgokdjbomaaCod
import Derived.Test.YtibofgokdjbomaaAppBytes
import Derived.Test.YtibofgokdjbomaaIntOps
import Derived.Test.YtibofgokdjbomaaOwnKeep
import Derived.StillTailTactics
import Derived.BigQuiet
import Derived.WalkMore
import Derived.ScopeJumps
import Derived.Test.YtibofgokdjbomaaCodNum
import Derived.Lib.SliceRun
/-
  coder's Writer over this program: what its calls turn; begun, tell, carry, widen, put.
-/
namespace Go.Proofs.Ytibofgokdjbomaa
set_option maxRecDepth 1000000
open Go.RowKit

/-- From W0 to W nothing that lay there is turned but the blocks S and the row v0 of what was told; v1 is that row then. -/
structure Wn (S : List Nat) (W0 : World) (v0 : Option Nat) (W : World) (v1 : Option Nat) : Prop where
  os : W.os = W0.os
  tape : W.tape = W0.tape
  output : W.output = W0.output
  size : W0.heap.size ≤ W.heap.size
  block : ∀ k, k < W0.heap.size → k ∉ S → some k ≠ v0 → W.heap[k]? = W0.heap[k]?
  row : v1 = v0 ∨ ∃ b, v1 = some b ∧ W0.heap.size ≤ b
theorem Wn.refl (S : List Nat) (W : World) (v : Option Nat) : Wn S W v W v := ⟨rfl, rfl, rfl, Nat.le_refl _, fun _ _ _ _ => rfl, .inl rfl⟩
theorem Wn.trans {S : List Nat} {W0 W1 W2 : World} {v0 v1 v2 : Option Nat} (h : Wn S W0 v0 W1 v1) (k : Wn S W1 v1 W2 v2) : Wn S W0 v0 W2 v2 := by
  refine ⟨k.os.trans h.os, k.tape.trans h.tape, k.output.trans h.output, Nat.le_trans h.size k.size, fun i hi hg hv => ?_, ?_⟩
  · refine (k.block i (Nat.lt_of_lt_of_le hi h.size) hg ?_).trans (h.block i hi hg hv)
    rcases h.row with e | ⟨b, e, hb⟩
    · rw [e]; exact hv
    · rw [e]; intro e2; cases e2; omega
  · rcases k.row with e | ⟨b, e, hb⟩
    · rw [e]; exact h.row
    · exact .inr ⟨b, e, Nat.le_trans h.size hb⟩
theorem Wn.grown {S : List Nat} {W0 W1 W2 : World} {v0 v1 : Option Nat} {r : Option Nat} (h : Wn S W0 v0 W1 v1) (k : W1.grownBy W2 r) (hr : ∀ b, r = some b → b ∈ S ∨ v1 = some b) : Wn S W0 v0 W2 v1 := by
  refine h.trans ⟨k.os, k.tape, k.output, k.size, fun i hi hg hv => k.block i hi ?_, .inl rfl⟩
  rintro rfl
  rcases hr i rfl with h1 | h1
  · exact hg h1
  · exact hv h1.symm
theorem Wn.grown0 {S : List Nat} {W0 W1 W2 : World} {v0 v1 : Option Nat} (h : Wn S W0 v0 W1 v1) (k : W1.grownBy W2 none) : Wn S W0 v0 W2 v1 := h.grown k (fun b e => by cases e)
theorem Wn.mono {S T : List Nat} {W0 W1 : World} {v0 v1 : Option Nat} (h : Wn S W0 v0 W1 v1) (hs : ∀ k ∈ S, k ∈ T) : Wn T W0 v0 W1 v1 :=
  ⟨h.os, h.tape, h.output, h.size, fun i hi hg hv => h.block i hi (fun e => hg (hs i e)) hv, h.row⟩
/-- All that may be turned is new since w. -/
theorem Wn.new {S : List Nat} {w W0 W : World} {v0 v1 : Option Nat} (h : w.grownBy W0 none) (k : Wn S W0 v0 W v1) (hs : ∀ b ∈ S, w.heap.size ≤ b) (hv : ∀ b, v0 = some b → w.heap.size ≤ b) : w.grownBy W none :=
  ⟨k.os.trans h.os, k.tape.trans h.tape, k.output.trans h.output, Nat.le_trans h.size k.size, fun i hi _ => (k.block i (Nat.lt_of_lt_of_le hi h.size) (fun e => by have := hs i e; omega) (fun e => by have := hv i e.symm; omega)).trans (h.block i hi (by simp))⟩
theorem Row.wn {S : List Nat} {W0 W : World} {b : Nat} {v0 v1 : Option Nat} {t : TypeId} {cs : List Value} (h : Row W0 b t cs) (k : Wn S W0 v0 W v1) (hs : b ∉ S) (hv : some b ≠ v0) : Row W b t cs := (k.block b h.lt hs hv).trans h
theorem Rd.wn {S : List Nat} {W0 W : World} {v0 v1 : Option Nat} {v : Value} {xs : List Value} (h : Rd W0 v xs) (k : Wn S W0 v0 W v1) (hg : ∀ b, v.ownBlock = some b → b ∉ S ∧ some b ≠ v0) : Rd W v xs :=
  h.keep fun b hb hlt => k.block b hlt (hg b hb).1 (hg b hb).2
theorem own_at2 {w w' : World} {base : Nat} {e : TypeId} {v : Value} {n : Nat} {xs : List Value} (h : w.ownsRow base e 1 v n xs) (hb : ∀ g, v.ownBlock = some g → w'.heap[g]? = w.heap[g]?) : w'.ownsRow base e 1 v n xs := by
  refine ⟨h.1, ?_⟩
  rcases h.2 with h0 | ⟨g, cap, cur, rfl, hbase, hg, hrest⟩
  · exact .inl h0
  · exact .inr ⟨g, cap, cur, rfl, hbase, (hb g rfl).trans hg, hrest⟩

/-- Block g is a writer that keeps s; what was told lies in row vb. -/
def Wt (w : World) (g : Nat) (vb : Option Nat) (s : Cst) : Prop :=
  ∃ v, Row w g 102 [v, .int .u32 (s.low : Int), .int .u32 (s.width : Int)] ∧ w.ownsRow 0 5 1 v s.out.length (bytesV s.out) ∧ v.ownBlock = vb ∧ vb ≠ some g
theorem own_block_lt {w : World} {base : Nat} {e : TypeId} {v : Value} {n : Nat} {xs : List Value} (h : w.ownsRow base e 1 v n xs) {b : Nat} (hb : v.ownBlock = some b) : b < w.heap.size := by
  rcases h.2 with ⟨rfl, _⟩ | ⟨g', cap, cur, rfl, _, hgg, _⟩
  · cases hb
  · cases hb
    exact (Array.getElem?_eq_some_iff.1 hgg).1
theorem Wt.lt {w : World} {g : Nat} {vb : Option Nat} {s : Cst} (h : Wt w g vb s) : g < w.heap.size := by
  obtain ⟨v, hrow, _⟩ := h
  exact hrow.lt
theorem Wt.row_lt {w : World} {g : Nat} {vb : Option Nat} {s : Cst} (h : Wt w g vb s) : ∀ b, vb = some b → b < w.heap.size := by
  obtain ⟨v, hrow, hown, hvb, hne⟩ := h
  rintro b rfl
  exact own_block_lt hown hvb
theorem Wt.keep {w w' : World} {g : Nat} {vb : Option Nat} {s : Cst} (h : Wt w g vb s) (hg : w'.heap[g]? = w.heap[g]?) (hv : ∀ b, vb = some b → w'.heap[b]? = w.heap[b]?) : Wt w' g vb s := by
  obtain ⟨v, hrow, hown, hvb, hne⟩ := h
  exact ⟨v, hg.trans hrow, own_at2 hown (fun b hb => hv b (hvb.symm.trans hb)), hvb, hne⟩
theorem Wt.grown {w w' : World} {g : Nat} {vb : Option Nat} {s : Cst} {r : Option Nat} (h : Wt w g vb s) (hg : w.grownBy w' r) (h1 : some g ≠ r) (h2 : ∀ b, vb = some b → some b ≠ r) : Wt w' g vb s :=
  h.keep (hg.block g h.lt h1) (fun b hb => hg.block b (h.row_lt b hb) (h2 b hb))
theorem Wt.grown0 {w w' : World} {g : Nat} {vb : Option Nat} {s : Cst} (h : Wt w g vb s) (hg : w.grownBy w' none) : Wt w' g vb s := h.grown hg (by simp) (by simp)
/-- Another writer, untouched. -/
theorem Wt.wn {S : List Nat} {W0 W : World} {c : Nat} {v0 v1 vc : Option Nat} {s : Cst} (h : Wt W0 c vc s) (k : Wn S W0 v0 W v1) (h1 : c ∉ S ∧ some c ≠ v0) (h2 : ∀ b, vc = some b → b ∉ S ∧ some b ≠ v0) : Wt W c vc s :=
  h.keep (k.block c h.lt h1.1 h1.2) (fun b hb => k.block b (h.row_lt b hb) (h2 b hb).1 (h2 b hb).2)

section
variable {P : Program} {ops : Array Oper} {Q : Exit → Act → World → Prop} {n : Nat} {eff : List (Nat × Nat)} {w0 : World} {a0 : Act} {tail : List Oper}
/-- An operation that makes memory, in a region that draws its order. -/
theorem Walk.makeC {env : List (Value → World → Prop)} {k : Nat} {o : Oper} {rest : List Oper} {G : Value → World → Prop} (hl : StaysBut eff k G) (ho : ops[k]? = some o) (hdst : o.dst.isSome = true)
    (hs : ∀ a w, Mid2 ops n eff w0 a0 a w → Ahead eff k w0 w → Deps2 ops env.reverse o a w → Wanted ops o a ∧ ∃ v w', (execOp a.eval o).run P w = .ok (.value v) w' ∧ w.grownBy w' (rowAt eff k) ∧ G v w')
    (hc : Walk P ops Q n eff w0 a0 tail (k + 1) rest (G :: env)) : Walk P ops Q n eff w0 a0 tail k (o :: rest) env := by
  refine ⟨G, hl, fun a w hm ha hd => ?_, hc⟩
  obtain ⟨hw, v, w', hr, hg, hG⟩ := hs a w hm ha hd
  unfold wpOp
  rw [ho]
  simp only
  rw [if_pos (show Region.wanted o (yielded ops a.tmps) = true from hw)]
  refine .inl ?_
  unfold Oper.wp
  rw [hr, Oper.upon_value]
  exact ⟨v, rfl, hg, hG, fun h => by rw [h] at hdst; cases hdst⟩
end
theorem GrownX.rowC {S : List Nat} {w w' : World} (h : GrownX S w.drew w') {g : Nat} {t : TypeId} {cs : List Value} (hr : Row w g t cs) (hg : g ∉ S) : Row w' g t cs := (h.block g hr.lt hg).trans hr

section
variable {o : Oper} {a : Act} {w : World}
theorem st_nil {x : Operand} {p : Addr} (h : o.op = .nilCheck x) (hx : Is (.pointer (some p)) (a.eval x) w) : Runs (Is (.pointer (some p))) o a w := by
  have hx' : a.eval x = .pointer (some p) := hx
  refine ⟨_, ?_, rfl⟩
  simp only [execOp, h, hx']
  simp [go_sem]
theorem st_fieldW0 {x : Operand} {g : Nat} (h : o.op = .fieldAddr 102 x 0) (hx : Is (.pointer (some ⟨g, 0, none⟩)) (a.eval x) w) : Runs (Is (.pointer (some ⟨g, 0, none⟩))) o a w := by
  have hx' : a.eval x = .pointer (some ⟨g, 0, none⟩) := hx
  refine ⟨_, ?_, rfl⟩
  simp only [execOp, h, hx']
  kernel_rfl
theorem st_fieldW1 {x : Operand} {g : Nat} (h : o.op = .fieldAddr 102 x 1) (hx : Is (.pointer (some ⟨g, 0, none⟩)) (a.eval x) w) : Runs (Is (.pointer (some ⟨g, 1, none⟩))) o a w := by
  have hx' : a.eval x = .pointer (some ⟨g, 0, none⟩) := hx
  refine ⟨_, ?_, rfl⟩
  simp only [execOp, h, hx']
  kernel_rfl
theorem st_fieldW2 {x : Operand} {g : Nat} (h : o.op = .fieldAddr 102 x 2) (hx : Is (.pointer (some ⟨g, 0, none⟩)) (a.eval x) w) : Runs (Is (.pointer (some ⟨g, 2, none⟩))) o a w := by
  have hx' : a.eval x = .pointer (some ⟨g, 0, none⟩) := hx
  refine ⟨_, ?_, rfl⟩
  simp only [execOp, h, hx']
  kernel_rfl
theorem st_shr24 {x : Operand} {n : Nat} (h : o.op = .binOp .shr 100 x (.const (.int .u64 24)) 108) (hx : Is (.int .u32 (n : Int)) (a.eval x) w) (_ : n < 4294967296) : Runs (Is (.int .u32 ((n / 16777216 : Nat) : Int))) o a w := by
  have hx' : a.eval x = .int .u32 (n : Int) := hx
  have hc : a.eval (.const (.int .u64 24)) = .int .u64 24 := rfl
  refine ⟨_, ?_, rfl⟩
  simp only [execOp, h, hx', hc]
  simp [go_sem]
theorem st_conv328 {x : Operand} {n : Nat} (h : o.op = .convert 100 5 x) (hx : Is (.int .u32 (n : Int)) (a.eval x) w) (hn : n < 256) : Runs (Is (.int .u8 (n : Int))) o a w := by
  have hx' : a.eval x = .int .u32 (n : Int) := hx
  have hw : IntKind.u8.wrap (n : Int) = (n : Int) := by rw [IntKind.wrap_u8]; omega
  refine ⟨_, ?_, rfl⟩
  simp only [execOp, h, hx']
  simp [go_sem, hw]
theorem ex_build1C {x : Operand} {u : Value} (h : o.op = .buildSlice 22 1 #[(0, x)]) (hx : a.eval x = u) (h1 : u.oneCell' = true) :
    (execOp a.eval o).run Try.prog w = .ok (.value (.slice (some ⟨w.heap.size, 0, none⟩) 1 1)) (w.alloc (.cells #[u] 5)) := by
  simp only [execOp, h, List.map_toArray, List.map_cons, List.map_nil, hx]
  cases u <;> simp [Value.oneCell'] at h1 <;> simp [go_sem]
theorem ex_appendB {x y : Operand} (ho : o.op = .call { callee := .builtin .append, args := #[x, y], argTypes := #[22, 22] })
    (base : Nat) (v : Value) (n : Nat) (xs : List Value) (hx : a.eval x = v) (hown : w.ownsRow base 5 1 v n xs) (u : Value) (l : List UInt8) (hy : a.eval y = u) (hr : Rd w u (bytesV l)) (hlen : n + l.length ≤ 1000000000000) (hbase : base ≤ w.heap.size)
    {r vb : Option Nat} {H : Nat} (hrow : r = v.ownBlock) (hvb : v.ownBlock = vb) (hsz : H ≤ w.heap.size) :
    ∃ v' w', (execOp a.eval o).run Try.prog w = .ok (.value v') w' ∧ w.grownBy w' r ∧ (w'.ownsRow base 5 1 v' (n + l.length) (xs ++ bytesV l) ∧ (v'.ownBlock = vb ∨ ∃ b, v'.ownBlock = some b ∧ H ≤ b)) := by
  obtain ⟨i, hi, hz, hs1, hb⟩ := infoByte
  obtain ⟨v', w', hrun, h2, h3, h4⟩ := run_append_rd (P := Try.prog) w base 22 o.type 5 i (.int .u8 0) 1 Try.underlying22 hi hz hs1 hb rfl v n xs hown u (bytesV l) hr (bytesV_one _) (by rw [bytesV_len]; omega) (by rw [bytesV_len]; omega) hbase
  rw [bytesV_len] at h2
  refine ⟨v', w', ?_, by rw [hrow]; exact h3, h2, ?_⟩
  · unfold execOp
    simp only [ho, resolve, invoke, builtin, Sem.run_bind, Sem.run_pure, Result.andThen_ok, List.map_toArray, List.map_cons, List.map_nil, hx, hy, hrun]
  · rcases h4 with e | e
    · exact .inl (e.trans hvb)
    · exact .inr ⟨_, e, hsz⟩
end
theorem wpList_storeB {ops : Array Oper} {rest : List Oper} {o : Oper} {a : Act} {w : World} {Q : Exit → Act → World → Prop} (hgd : o.guard = none) (hdst : o.dst = none) (x y : Operand) (ho : o.op = .store 22 x y) (g i : Nat) (t : TypeId) (cs : List Value) (A : Option Addr) (n c : Nat)
    (hv : a.eval x = .pointer (some ⟨g, i, none⟩)) (hy : a.eval y = .slice A n c) (hr : Row w g t cs) (hi : i < cs.length) (h : wpList Try.prog ops Q rest a (w.setCell ⟨g, i, none⟩ (.slice A n c))) : wpList Try.prog ops Q (o :: rest) a w := by
  have hf := hr.frozen i
  have hc := hr.cell (j := i) (u := cs[i]) (List.getElem?_eq_getElem hi)
  refine wpList_plain hgd fun _ hK => ?_
  have hrun : (execOp a.eval o).run Try.prog w = .ok .skip (w.setCell ⟨g, i, none⟩ (.slice A n c)) := by
    simp only [execOp, ho, hv, hy]
    simp [go_sem, hc, hf]
  unfold Oper.wp
  rw [hrun, Oper.upon_skip]
  refine hK _ _ ?_
  rw [hdst]
  exact h

/-- What a call of a writer answers: nothing, and the writer keeps s then. -/
def WOut (g : Nat) (vb : Option Nat) (s : Cst) (w : World) (e : Ending) (w' : World) : Prop := e = .returned (.tuple #[]) ∧ ∃ vb', Wt w' g vb' s ∧ Wn [g] w vb w' vb'

set_option maxHeartbeats 4000000 in
theorem tell_at (g : Nat) (vb : Option Nat) (s : Cst) (w : World) (h : Wt w g vb s) (hs : s.low < 4294967296) (hl : s.out.length ≤ 1000000000) :
    Calls Try.prog 62 #[.pointer (some ⟨g, 0, none⟩)] w (WOut g vb (tellS s) w) := by
  obtain ⟨v, hrow, hown, hvb, hne⟩ := h
  obtain ⟨eff, hdis, hoth, h12, hmem⟩ : ∃ eff : List (Nat × Nat), (∀ i j g, rowAt eff i = some g → rowAt eff j = some g → i = j) ∧ (∀ i, i ≠ 12 → rowAt eff i = none) ∧ rowAt eff 12 = vb ∧ ∀ b, b ∈ eff.map (·.2) → vb = some b := by
    cases vb with
    | none => exact ⟨[], dis_nil, fun _ _ => rfl, rfl, fun b hb => by simp at hb⟩
    | some b => exact ⟨[(12, b)], dis_one _ _, fun i hi => by simp [rowAt]; omega, by simp [rowAt], fun b' hb => by simp at hb; rw [hb]⟩
  have HG := Lib.hid (show g ∉ eff.map (·.2) from fun e => hne (hmem g e))
  have HR := Lib.hid hrow
  have HO := Lib.hid hown
  have HV := Lib.hid (And.intro hvb hne)
  have HS := Lib.hid hs
  have HL := Lib.hid hl
  have HD := Lib.hid hdis
  have HOTH := Lib.hid hoth
  have H12 := Lib.hid h12
  have HM := Lib.hid hmem
  have HB := Lib.hid (show ∀ b, vb = some b → b < w.heap.size from fun b hb => own_block_lt hown (hvb.trans hb))
  clear hrow hown hvb hne hs hl hdis hoth h12 hmem
  go_enter Try.func62, Try.ntmps62
  go_wp2
  refine wp_region_walk3 15 eff HD.out (by kernel_rfl) (by kernel_rfl) (by kernel_rfl) ?_
  simp only [List.take_succ_cons, List.take_zero, List.drop_succ_cons, List.drop_zero]
  refine Walk.val (G := Is (.pointer (some ⟨g, 0, none⟩))) (stays_is _ _) rfl rfl (fun a w hm hd => ⟨wanted_plain rfl, st_move rfl (by rw [hm.outer 0 (by kernel_rfl)]; rfl)⟩) ?_
  refine Walk.val (G := Is (.pointer (some ⟨g, 0, none⟩))) (stays_is _ _) rfl rfl (fun a w hm hd => ⟨wanted_plain rfl, st_move rfl (by rw [hm.outer 0 (by kernel_rfl)]; rfl)⟩) ?_
  refine Walk.val (G := Is (.pointer (some ⟨g, 0, none⟩))) (stays_is _ _) rfl rfl (fun a w hm hd => ⟨wanted_plain rfl, st_nil rfl (hd.at_ 1 rfl rfl rfl rfl)⟩) ?_
  refine Walk.val (G := Is (.pointer (some ⟨g, 0, none⟩))) (stays_is _ _) rfl rfl (fun a w hm hd => ⟨wanted_plain rfl, st_fieldW0 rfl (hd.at_ 2 rfl rfl rfl rfl)⟩) ?_
  refine Walk.val (G := Is v) (stays_is _ _) rfl rfl (fun a w hm hd => ⟨wanted_plain rfl, st_cell rfl (fun _ => by kernel_rfl) (hd.at_ 3 rfl rfl rfl rfl) ((hm.grow.rowC HR.out HG.out).cell (j := 0) rfl)⟩) ?_
  refine Walk.val (G := Is (.pointer (some ⟨g, 0, none⟩))) (stays_is _ _) rfl rfl (fun a w hm hd => ⟨wanted_plain rfl, st_move rfl (by rw [hm.outer 0 (by kernel_rfl)]; rfl)⟩) ?_
  refine Walk.val (G := Is (.pointer (some ⟨g, 0, none⟩))) (stays_is _ _) rfl rfl (fun a w hm hd => ⟨wanted_plain rfl, st_nil rfl (hd.at_ 5 rfl rfl rfl rfl)⟩) ?_
  refine Walk.val (G := Is (.pointer (some ⟨g, 1, none⟩))) (stays_is _ _) rfl rfl (fun a w hm hd => ⟨wanted_plain rfl, st_fieldW1 rfl (hd.at_ 6 rfl rfl rfl rfl)⟩) ?_
  refine Walk.val (G := Is (.int .u32 (s.low : Int))) (stays_is _ _) rfl rfl (fun a w hm hd => ⟨wanted_plain rfl, st_cell rfl (fun _ => by kernel_rfl) (hd.at_ 7 rfl rfl rfl rfl) ((hm.grow.rowC HR.out HG.out).cell (j := 1) rfl)⟩) ?_
  refine Walk.val (G := Is (.int .u32 ((s.low / 16777216 : Nat) : Int))) (stays_is _ _) rfl rfl (fun a w hm hd => ⟨wanted_plain rfl, st_shr24 rfl (hd.at_ 8 rfl rfl rfl rfl) HS.out⟩) ?_
  refine Walk.val (G := Is (.int .u8 ((s.low / 16777216 : Nat) : Int))) (stays_is _ _) rfl rfl (fun a w hm hd => ⟨wanted_plain rfl, st_conv328 rfl (hd.at_ 9 rfl rfl rfl rfl) (by have := HS.out; omega)⟩) ?_
  refine Walk.makeC (G := fun u W => Rd W u (bytesV [UInt8.ofNat (s.low / 16777216)]) ∧ ∀ b, u.ownBlock = some b → w.heap.size ≤ b) (stays_all (fun _ _ _ h hg => ⟨Rd.grown0 h.1 hg, h.2⟩) (fun b hb v w w' h hg => ⟨h.1.grown hg (fun b' hb' e => by
      injection e with e
      have h1 := h.2 b' hb'
      have h2 := HB.out b (HM.out b hb)
      omega), h.2⟩) 11) rfl rfl (fun a w hm _ hd => ⟨wanted_plain rfl, _, _, ex_build1C rfl (hd.at_ 10 rfl rfl rfl rfl) rfl, by rw [HOTH.out 11 (by decide)]; exact grown_alloc (grown_refl _ _) _, by
      refine ⟨?_, fun b hb => ?_⟩
      · have := Rd.one w (Value.int .u8 ((s.low / 16777216 : Nat) : Int)) 5
        rw [show bytesV [UInt8.ofNat (s.low / 16777216)] = [Value.int .u8 ((s.low / 16777216 : Nat) : Int)] by simp [bytesV, byteV]; have := HS.out; omega]
        exact this
      · cases hb
        exact hm.grow.size⟩) ?_
  refine Walk.makeC (G := fun u W => W.ownsRow 0 5 1 u (s.out.length + 1) (bytesV s.out ++ bytesV [UInt8.ofNat (s.low / 16777216)]) ∧ (u.ownBlock = vb ∨ ∃ b, u.ownBlock = some b ∧ w.heap.size ≤ b)) (fun i hi => by
      rw [HOTH.out i hi]
      exact fun v w w' h hg => ⟨own_keepN h.1 hg, h.2⟩) rfl rfl (fun a w hm ha hd => ⟨wanted_plain rfl, by
      obtain ⟨hr, hb⟩ := hd.at_ 11 rfl rfl rfl rfl
      exact ex_appendB rfl 0 v s.out.length (bytesV s.out) (hd.at_ 4 rfl rfl rfl rfl) (own_at2 HO.out (fun b hb => ha b (by rw [H12.out, ← HV.out.1, hb]) (own_block_lt HO.out hb))) _ [UInt8.ofNat (s.low / 16777216)] rfl hr (by have := HL.out; simp; omega) (Nat.zero_le _) (by rw [H12.out, ← HV.out.1]) HV.out.1 hm.grow.size⟩) ?_
  refine Walk.val (G := Is (.pointer (some ⟨g, 0, none⟩))) (stays_is _ _) rfl rfl (fun a w hm hd => ⟨wanted_plain rfl, st_nil rfl (hd.at_ 0 rfl rfl rfl rfl)⟩) ?_
  refine Walk.val (G := Is (.pointer (some ⟨g, 0, none⟩))) (stays_is _ _) rfl rfl (fun a w hm hd => ⟨wanted_plain rfl, st_fieldW0 rfl (hd.at_ 13 rfl rfl rfl rfl)⟩) ?_
  intro a9 V9 hm9 hall
  have f2 : Is (.pointer (some ⟨g, 0, none⟩)) (a9.eval (.tmp 2)) V9 := hall 0 _ _ rfl rfl
  have f3 : Is (.pointer (some ⟨g, 0, none⟩)) (a9.eval (.tmp 3)) V9 := hall 1 _ _ rfl rfl
  have g16 : Is (.pointer (some ⟨g, 0, none⟩)) (a9.eval (.tmp 16)) V9 := hall 14 _ _ rfl rfl
  obtain ⟨ho14, hat14⟩ := hall 12 _ _ rfl rfl
  change V9.ownsRow 0 _ 1 (a9.eval (.tmp 14)) _ _ at ho14
  change (a9.eval (.tmp 14)).ownBlock = vb ∨ ∃ b, (a9.eval (.tmp 14)).ownBlock = some b ∧ w.heap.size ≤ b at hat14
  obtain ⟨A, c, h14⟩ := own_form ho14
  have R9 := hm9.grow.rowC HR.out HG.out
  have hfr := hm9.frame
  simp only [List.take_succ_cons, List.take_zero, List.filterMap_cons, List.filterMap_nil, List.foldl_cons, List.foldl_nil] at hfr
  have W9 : Wn [g] w vb V9 vb := ⟨hm9.grow.os, hm9.grow.tape, hm9.grow.output, hm9.grow.size, fun k hk h1 h2 => hm9.grow.block k hk (fun e => h2 (HM.out k e).symm), .inl rfl⟩
  rw [h14] at ho14 hat14
  rw [h14] at hfr
  refine wpList_storeB rfl rfl _ _ rfl g 0 _ _ A _ c g16 h14 R9 (by simp) ?_
  obtain ⟨W3, hW3⟩ : ∃ W, V9.setCell ⟨g, 0, none⟩ (.slice A (s.out.length + 1) c) = W := ⟨_, rfl⟩
  have R3 := R9.set 0 (.slice A (s.out.length + 1) c)
  have N3 : Wn [g] w vb W3 vb := W9.grown (by rw [← hW3]; exact grown_set V9 g 0 _) (fun b e => by cases e; exact .inl (List.mem_singleton.2 rfl))
  have hneg : (Value.slice A (s.out.length + 1) c).ownBlock ≠ some g := by
    rcases hat14 with e | ⟨b, e, hb⟩
    · rw [e]; exact HV.out.2
    · rw [e]
      intro e2
      cases e2
      have := HR.out.lt
      omega
  have O3 : W3.ownsRow 0 5 1 (.slice A (s.out.length + 1) c) (s.out.length + 1) (bytesV s.out ++ bytesV [UInt8.ofNat (s.low / 16777216)]) :=
    own_at2 ho14 (fun b hb => by rw [← hW3]; exact heap_setCell_other V9 _ b _ (fun e => hneg (by rw [hb, e])))
  rw [hW3] at R3
  rw [hW3]
  simp only [List.set_cons_zero] at R3
  generalize a9.eval (.tmp 2) = e2 at hfr
  generalize a9.eval (.tmp 3) = e3 at hfr
  generalize a9.eval (.tmp 4) = e4 at hfr
  generalize a9.eval (.tmp 5) = e5 at hfr
  generalize a9.eval (.tmp 6) = e6 at hfr
  generalize a9.eval (.tmp 7) = e7 at hfr
  generalize a9.eval (.tmp 8) = e8 at hfr
  generalize a9.eval (.tmp 9) = e9 at hfr
  generalize a9.eval (.tmp 10) = e10 at hfr
  generalize a9.eval (.tmp 11) = e11 at hfr
  generalize a9.eval (.tmp 12) = e12 at hfr
  generalize a9.eval (.tmp 13) = e13 at hfr
  generalize a9.eval (.tmp 15) = e15 at hfr
  generalize a9.eval (.tmp 16) = e16 at hfr
  have c1 := R3.cell (j := 1) rfl
  have k1 := R3.frozen 1
  have R3 := Lib.hid R3
  have N3 := Lib.hid N3
  have O3 := Lib.hid O3
  have HNE := Lib.hid hneg
  have HAT := Lib.hid hat14
  clear f2 f3 g16 ho14 hat14 h14 R9 hall hm9 W9 hneg
  unfold wpList
  rw [hfr]
  clear hfr hW3
  go_simp
  go_wp2
  refine bodyPost_end (results_none rfl _ _ _) rfl ?_
  have e1 := HS.out
  have e2 : (s.low : Int) * 256 % 4294967296 = (((tellS s).low : Nat) : Int) := by
    show _ = ((s.low % 16777216 * 256 : Nat) : Int)
    omega
  rw [e2]
  have G4 := grown_set W3 g 1 (.int .u32 (((tellS s).low : Nat) : Int))
  refine ⟨rfl, (Value.slice A (s.out.length + 1) c).ownBlock, ⟨_, R3.out.set 1 _, ?_, rfl, HNE.out⟩, ?_⟩
  · have := own_at2 O3.out (fun b hb => G4.block b (own_block_lt O3.out hb) (fun e => HNE.out (by rw [hb, e])))
    rw [← bytesV_app] at this
    simpa [tellS] using this
  · have h4 := N3.out.grown G4 (fun b e => by cases e; exact .inl (List.mem_singleton.2 rfl))
    exact ⟨h4.os, h4.tape, h4.output, h4.size, h4.block, HAT.out⟩
end Go.Proofs.Ytibofgokdjbomaa

/-
  coder's Writer over this program: begun, carry, widen, put.
-/
namespace Go.Proofs.Ytibofgokdjbomaa
set_option maxRecDepth 1000000
open Go.RowKit

theorem own_slice {w : World} {v : Value} {n : Nat} {xs : List Value} (h : w.ownsRow 0 5 1 v n xs) (hn : 0 < n) : ∃ b c, v = .slice (some ⟨b, 0, none⟩) n c := by
  rcases h.2 with ⟨_, e⟩ | ⟨g, cap, cur, rfl, _⟩
  · omega
  · exact ⟨g, cap, rfl⟩

theorem u8_last (y : UInt8) (h : y + 1 = 0) : y.toNat = 255 := by
  have h1 := congrArg UInt8.toNat h
  have h2 := UInt8.toNat_lt y
  rw [UInt8.toNat_add] at h1
  simp at h1
  omega
theorem u8_next (y : UInt8) (h : ¬ y + 1 = 0) : (y + 1).toNat = y.toNat + 1 ∧ y.toNat < 255 := by
  have h2 := UInt8.toNat_lt y
  have h3 : y.toNat ≠ 255 := by
    intro e
    apply h
    apply UInt8.toNat_inj.1
    rw [UInt8.toNat_add, e]
    rfl
  rw [UInt8.toNat_add]
  simp
  omega
set_option maxHeartbeats 4000000 in
theorem carry_at (g : Nat) (vb : Option Nat) (s : Cst) (w : World) (h : Wt w g vb s) (hl : s.out.length ≤ 1000000000) :
    Calls Try.prog 83 #[.pointer (some ⟨g, 0, none⟩)] w (WOut g vb ⟨incr s.out, s.low, s.width⟩ w) := by
  obtain ⟨v, hrow, hown, hvb, hne⟩ := h
  generalize hO : s.out = out at *
  obtain ⟨A, c, rfl⟩ := own_form hown
  have r0 := hrow.cell (j := 0) rfl
  have HR := Lib.hid hrow
  have HO := Lib.hid hown
  have HV := Lib.hid (And.intro hvb hne)
  clear hrow hown hvb hne hO
  go_enter Try.func83, Try.ntmps83
  go_wp2
  clear r0
  go_loopw [2] (fun i W => ∃ (k : Nat) (l : List UInt8), k ≤ out.length ∧ i = .int .i64 ((k : Int) - 1) ∧ Row W g 102 [.slice A out.length c, .int .u32 (s.low : Int), .int .u32 (s.width : Int)] ∧ W.ownsRow 0 5 1 (.slice A out.length c) out.length (bytesV l) ∧ l.length = out.length ∧ incrAt k l = incr out ∧ Wn [g] w vb W vb) (fun i _ => (intOf i + 1).toNat)
  case atStart => exact ⟨out.length, out, Nat.le_refl _, rfl, HR.out, HO.out, rfl, rfl, Wn.refl _ _ _⟩
  case round =>
    obtain ⟨k, l, hk, rfl, hr, ho, hll, hin, hw⟩ := hrel
    cases k with
    | zero =>
      have HH := Lib.hid (And.intro hr (And.intro ho (And.intro hll (And.intro hin hw))))
      clear hr ho hll hin hw
      go_wp2
      refine bodyPost_end (results_none rfl _ _ _) rfl ?_
      obtain ⟨hr, ho, hll, hin, hw⟩ := HH.out
      rw [show incrAt 0 l = l from rfl] at hin
      subst hin
      exact ⟨rfl, vb, ⟨_, hr, by rw [hll]; exact ho, HV.out.1, HV.out.2⟩, hw⟩
    | succ j =>
      obtain ⟨b, c', e⟩ := own_slice ho (by omega)
      injection e with e1 _ e3
      subst e1 e3
      rw [show ((j + 1 : Nat) : Int) - 1 = (j : Int) by omega]
      have r0 := hr.cell (j := 0) rfl
      have c1 := ho.cellAt j (by omega)
      rw [bytesV_at l j (by omega)] at c1
      have k1 := ho.frozenAt j
      have hneb : b ≠ g := fun e => HV.out.2 (by rw [← HV.out.1]; exact congrArg some e)
      have hvb : vb = some b := HV.out.1.symm
      have HNB := Lib.hid hneb
      have HJ := Lib.hid (show ∀ y, Row (wr.setCell ⟨b, j, none⟩ y) g 102 _ from fun y => hr.other hneb.symm y)
      have HST := Lib.hid (show ∀ y : UInt8, (wr.setCell ⟨b, j, none⟩ (.int .u8 (y.toNat : Int))).ownsRow 0 5 1 (.slice (some ⟨b, 0, none⟩) out.length c) out.length (bytesV (l.set j y)) from fun y => by
        have := (ho.stored j (.int .u8 (y.toNat : Int))).1
        rwa [show (bytesV l).set j (.int .u8 (y.toNat : Int)) = bytesV (l.set j y) from bytesV_set l j y] at this)
      have HWN := Lib.hid (show ∀ y, Wn [g] w vb (wr.setCell ⟨b, j, none⟩ y) vb from fun y => hw.grown (ho.stored j y).2 (fun b' e => by cases e; exact .inr hvb))
      have HLL := Lib.hid hll
      have HK := Lib.hid (And.intro hk (show j < out.length by omega))
      have hjn : (j : Int) < (out.length : Int) := by omega
      have hinc : incrAt (j + 1) l = if l.getD j 0 + 1 = 0 then incrAt j (l.set j 0) else l.set j (l.getD j 0 + 1) := rfl
      rw [hinc] at hin
      clear hinc hr ho hw hll hk hvb
      by_cases hz : l.getD j 0 + 1 = 0
      · rw [if_pos hz] at hin
        have hx := u8_last _ hz
        rw [hx] at c1
        have HIN := Lib.hid hin
        clear hin hz hx
        go_wp2
        go_roundw
        case rel =>
          refine ⟨j, l.set j 0, by have := HK.out; omega, rfl, ?_, HST.out 0, by rw [List.length_set]; exact HLL.out, HIN.out, ?_⟩
          · exact HJ.out _
          · exact HWN.out _
        case measure => simp only [intOf]; omega
      · rw [if_neg hz] at hin
        have hy := u8_next _ hz
        have HS1 := Lib.hid (HST.out (l.getD j 0 + 1))
        rw [hy.1] at HS1
        obtain ⟨hy1, hy2⟩ := hy
        have HIN := Lib.hid hin
        clear hin hz hy1
        generalize (l.getD j 0).toNat = x at *
        have hm : ((x : Int) + 1) % 256 = (x : Int) + 1 := by omega
        have hne0 : ((x : Int) + 1 == 0) = false := by simp; omega
        go_wp2
        refine bodyPost_ret (results_none rfl _ _ _) rfl ?_
        refine ⟨rfl, vb, ⟨_, HJ.out _, ?_, HV.out.1, HV.out.2⟩, HWN.out _⟩
        have := HS1.out
        rw [show (((x + 1 : Nat) : Int)) = (x : Int) + 1 by omega, HIN.out] at this
        rw [incr_len]
        exact this

theorem WOut.made {g : Nat} {vb : Option Nat} {s : Cst} {w : World} {e : Ending} {w' : World} (h : WOut g vb s w e w') : e = .returned (.tuple #[]) ∧ ∃ vb', Wt w' g vb' s ∧ Wn [g] w vb w' vb' := h
set_option maxRecDepth 1000000 in
set_option maxHeartbeats 4000000 in
theorem widen_at (g : Nat) (vb : Option Nat) (s : Cst) (w : World) (h : Wt w g vb s) (hs : s.low < 4294967296) (h1 : 65536 ≤ s.width) (h2 : s.width < 4294967296) (hl : s.out.length ≤ 1000000000) :
    Calls Try.prog 84 #[.pointer (some ⟨g, 0, none⟩)] w (WOut g vb (wid s) w) := by
  have HW := Lib.hid h
  obtain ⟨v, hrow, hown, hvb, hne⟩ := h
  have r2 := hrow.cell (j := 2) rfl
  clear hrow hown hvb hne
  by_cases hlt : s.width < 16777216
  · have HT := Lib.hid (tell_at g vb s w HW.out hs hl)
    have HE := Lib.hid (show wid s = ⟨(tellS s).out, (tellS s).low, s.width * 256⟩ by rw [wid, if_pos hlt])
    have HTW := Lib.hid (show (tellS s).width = s.width from rfl)
    generalize s.width = m at *
    have HMM := Lib.hid (And.intro h1 hlt)
    have hd : decide (16777216 ≤ (m : Int)) = false := by simp; omega
    clear h1 h2 hlt hs hl
    go_enter Try.func84, Try.ntmps84
    go_wp2
    refine wp_scope_jumps 0 (fun a' W => ∃ (u2 u3 u4 u5 u6 u7 u8 u9 u10 u11 u12 u13 u14 u15 : Value) (vb' : Option Nat), a' = { tmps := #[.pointer (some ⟨g, 0, none⟩), undef, u2, u3, u4, u5, u6, u7, u8, u9, u10, u11, u12, u13, u14, u15], defers := [] } ∧ Wt W g vb' (wid s) ∧ Wn [g] w vb W vb') (fun _ _ => 0) rfl ?_ ?_
    · go_wp2
      go_step3
      go_wp2_with fail
      refine (HT.out).mono ?_
      rintro e w1 ⟨rfl, vb', ht1, hn1⟩
      have HN1 := Lib.hid hn1
      obtain ⟨v1, hrow1, hown1, hvb1, hne1⟩ := ht1
      rw [HTW.out] at hrow1
      have r2' := hrow1.cell (j := 2) rfl
      have f2' := hrow1.frozen 2
      have HR1 := Lib.hid hrow1
      have HO1 := Lib.hid (And.intro hown1 (And.intro hvb1 hne1))
      clear hrow1 hown1 hvb1 hne1 hn1 r2 HT
      have hmm : m * 256 < 4294967296 := by have := HMM.out; omega
      go_wp2
      go_step3
      refine ⟨rfl, _, _, _, _, _, _, _, _, _, _, _, _, _, _, vb', rfl, ?_, ?_⟩
      · rw [HE.out]
        refine ⟨v1, ?_, own_at2 HO1.out.1 (fun b hb => heap_setCell_other w1 _ b _ (fun e => HO1.out.2.2 (by rw [← HO1.out.2.1, hb, e]))), HO1.out.2.1, HO1.out.2.2⟩
        have := HR1.out.set 2 (.int .u32 ((m : Int) * 256))
        rw [show ((m : Int) * 256) = ((m * 256 : Nat) : Int) by omega] at this ⊢
        exact this
      · exact HN1.out.grown (grown_set w1 g 2 _) (fun b e => by cases e; exact .inl (List.mem_singleton.2 rfl))
    · rintro a' W ⟨u2, u3, u4, u5, u6, u7, u8, u9, u10, u11, u12, u13, u14, u15, vb', rfl, ht1, hn1⟩
      have HE1 := Lib.hid (And.intro ht1 hn1)
      obtain ⟨v1, hrow1, _⟩ := ht1
      rw [HE.out] at hrow1
      have hrow1 : Row W g _ [v1, _, .int .u32 ((m * 256 : Nat) : Int)] := hrow1
      have r2' := hrow1.cell (j := 2) rfl
      have hd2 : decide (16777216 ≤ ((m * 256 : Nat) : Int)) = true := by have := HMM.out; simp; omega
      generalize m * 256 = m' at r2' hd2
      clear hrow1 r2 hn1 hd HT
      go_wp2
      simp only [Exit.jump]
      refine bodyPost_ret (results_none rfl _ _ _) rfl ?_
      exact ⟨rfl, vb', HE1.out.1, HE1.out.2⟩
  · have HE := Lib.hid (show wid s = s by rw [wid, if_neg hlt])
    generalize s.width = m at *
    have hd : decide (16777216 ≤ (m : Int)) = true := by simp; omega
    clear h1 h2 hlt hs hl
    go_enter Try.func84, Try.ntmps84
    go_wp2
    go_step3
    go_wp2
    go_step3
    go_wp2
    rw [Exit.noGoto_ret]
    refine bodyPost_ret (results_none rfl _ _ _) rfl ?_
    exact ⟨rfl, vb, by rw [HE.out]; exact HW.out, Wn.refl _ _ _⟩

theorem Wt.set {w : World} {g : Nat} {vb : Option Nat} {s : Cst} (h : Wt w g vb s) {low width : Nat} {W : World} (v : Value) (hr : Row W g 102 [v, .int .u32 (low : Int), .int .u32 (width : Int)]) (hv : Row w g 102 [v, .int .u32 (s.low : Int), .int .u32 (s.width : Int)])
    (hg : w.grownBy W (some g)) : Wt W g vb ⟨s.out, low, width⟩ := by
  obtain ⟨v1, hrow, hown, hvb, hne⟩ := h
  have e : v1 = v := by
    have h1 := hrow.cell (j := 0) rfl
    have h2 := hv.cell (j := 0) rfl
    rw [h1] at h2
    exact Option.some.inj h2
  subst e
  exact ⟨v1, hr, own_at2 hown (fun b hb => hg.block b (own_block_lt hown hb) (fun e => hne (by rw [← hvb, hb, e]))), hvb, hne⟩
set_option maxHeartbeats 4000000 in
theorem put_at (g : Nat) (vb : Option Nat) (s : Cst) (bound : Nat) (q : Int) (w : World) (h : Wt w g vb s) (hs : Okc s) (hb : Okb s bound) (hl : s.out.length ≤ 900000000) :
    Calls Try.prog 56 #[.pointer (some ⟨g, 0, none⟩), .int .u32 (bound : Int), .int .i64 q] w (WOut g vb (putS s bound (decide (q ≠ 0))) w) := by
  have HW := Lib.hid h
  have HS := Lib.hid hs
  have HB := Lib.hid hb
  have HL := Lib.hid hl
  obtain ⟨v, hrow, hown, hvb, hne⟩ := h
  have r1 := hrow.cell (j := 1) rfl
  have r2 := hrow.cell (j := 2) rfl
  have f1 := hrow.frozen 1
  have f2 := hrow.frozen 2
  have HR := Lib.hid hrow
  clear hrow hown hvb hne hs hb hl
  by_cases h0 : q = 0
  · subst h0
    have G1 := grown_set w g 2 (.int .u32 (bound : Int))
    have T1 := Lib.hid (HW.out.set v (HR.out.set 2 (.int .u32 (bound : Int))) HR.out G1)
    have N1 := Lib.hid ((Wn.refl [g] w vb).grown G1 (fun b e => by cases e; exact .inl (List.mem_singleton.2 rfl)))
    have HE := Lib.hid (show putS s bound (decide ((0 : Int) ≠ 0)) = wid ⟨s.out, s.low, bound⟩ from rfl)
    rw [HE.out]
    go_enter Try.func56, Try.ntmps56
    go_wp2_with fail
    generalize w.setCell ⟨g, 2, none⟩ (.int .u32 (bound : Int)) = w1 at *
    refine (widen_at g vb _ w1 T1.out HS.out.low HB.out.least (by have h1 := HB.out.most; have h2 := HS.out.most; show bound < 4294967296; omega) (by have := HL.out; show s.out.length ≤ 1000000000; omega)).mono ?_
    rintro e w2 ⟨rfl, vb', h1, h2⟩
    have H2 := Lib.hid (And.intro h1 (N1.out.trans h2))
    clear h1 h2
    go_wp2
    refine bodyPost_end (results_none rfl _ _ _) rfl ?_
    exact ⟨rfl, vb', H2.out.1, H2.out.2⟩
  · have hdq : decide (q ≠ 0) = true := by simpa using h0
    rw [hdq]
    have hq0 : (q == 0) = false := by simpa using h0
    obtain ⟨L, hL⟩ : ∃ L, L = (s.low + bound) % 4294967296 := ⟨_, rfl⟩
    obtain ⟨M, hM⟩ : ∃ M, M = s.width - bound := ⟨_, rfl⟩
    have b1 := HB.out.least
    have b2 := HB.out.most
    have s1 := HS.out.low
    have s2 := HS.out.most
    have eL : ((s.low : Int) + (bound : Int)) % 4294967296 = (L : Int) := by omega
    have eM : (s.width : Int) - (bound : Int) = (M : Int) := by omega
    have hM0 : 65536 ≤ M ∧ M < 4294967296 := by omega
    have eM2 : (M : Int) % 4294967296 = (M : Int) := by omega
    have hL0 : L < 4294967296 := by omega
    have HC := Lib.hid (show (L < bound) ↔ 4294967296 ≤ s.low + bound by omega)
    have HE := Lib.hid (show putS s bound true = wid ⟨if 4294967296 ≤ s.low + bound then incr s.out else s.out, L, M⟩ by rw [hL, hM]; rfl)
    have HLM := Lib.hid (And.intro hL0 hM0)
    rw [HE.out]
    clear hL hM
    obtain ⟨W1, hW1⟩ : ∃ W, (w.setCell ⟨g, 2, none⟩ (.int .u32 (M : Int))).setCell ⟨g, 1, none⟩ (.int .u32 (L : Int)) = W := ⟨_, rfl⟩
    have R1 := (HR.out.set 2 (.int .u32 (M : Int))).set 1 (.int .u32 (L : Int))
    have G1 := grown_trans2 (grown_set w g 2 (.int .u32 (M : Int))) (grown_set _ g 1 (.int .u32 (L : Int)))
    rw [hW1] at R1 G1
    have R1 : Row W1 g _ [v, .int .u32 (L : Int), .int .u32 (M : Int)] := R1
    have T1 := Lib.hid (HW.out.set v R1 HR.out G1)
    have N1 := Lib.hid ((Wn.refl [g] w vb).grown G1 (fun b e => by cases e; exact .inl (List.mem_singleton.2 rfl)))
    have c1 := R1.cell (j := 1) rfl
    have HW1 := Lib.hid hW1
    clear R1 G1
    by_cases hc : L < bound
    · have hif : 4294967296 ≤ s.low + bound := HC.out.1 hc
      rw [if_pos hif]
      have hd : decide ((L : Int) < (bound : Int)) = true := by simp; omega
      clear hif HC b1 b2 s1 s2 hL0 hM0 h0
      go_enter Try.func56, Try.ntmps56
      go_wp2_with fail
      refine (carry_at g vb _ W1 T1.out (by have := HL.out; show s.out.length ≤ 1000000000; omega)).mono ?_
      rintro e w2 ⟨rfl, vb2, h1, h2⟩
      have T2 := Lib.hid h1
      have N2 := Lib.hid (N1.out.trans h2)
      clear h1 h2 hW1 HW1 c1 r1 r2 f1 f2 T1 N1
      go_wp2_with fail
      refine (widen_at g vb2 _ w2 T2.out HLM.out.1 HLM.out.2.1 HLM.out.2.2 (by have := HL.out; show (incr s.out).length ≤ 1000000000; rw [incr_len]; omega)).mono ?_
      rintro e w3 ⟨rfl, vb3, h1, h2⟩
      have H2 := Lib.hid (And.intro h1 (N2.out.trans h2))
      clear h1 h2
      go_wp2
      refine bodyPost_end (results_none rfl _ _ _) rfl ?_
      exact ⟨rfl, vb3, H2.out.1, H2.out.2⟩
    · have hif : ¬ 4294967296 ≤ s.low + bound := fun e => hc (HC.out.2 e)
      rw [if_neg hif]
      have hd : decide ((L : Int) < (bound : Int)) = false := by simp; omega
      clear hif HC b1 b2 s1 s2 hL0 hM0 h0
      go_enter Try.func56, Try.ntmps56
      go_wp2_with fail
      refine (widen_at g vb _ W1 T1.out HLM.out.1 HLM.out.2.1 HLM.out.2.2 (by have := HL.out; show s.out.length ≤ 1000000000; omega)).mono ?_
      rintro e w3 ⟨rfl, vb3, h1, h2⟩
      have H2 := Lib.hid (And.intro h1 (N1.out.trans h2))
      clear h1 h2
      go_wp2
      refine bodyPost_end (results_none rfl _ _ _) rfl ?_
      exact ⟨rfl, vb3, H2.out.1, H2.out.2⟩
end Go.Proofs.Ytibofgokdjbomaa

/-
  coder's Chance, and a Writer's Bit over this program.
-/
namespace Go.Proofs.Ytibofgokdjbomaa
set_option maxRecDepth 1000000
open Go.RowKit

/-- Chances as cells. -/
def chV (l : List Nat) : List Value := l.map fun (c : Nat) => Value.int .i16 ((c : Int) - 1024)
theorem chV_len (l : List Nat) : (chV l).length = l.length := by simp [chV]
theorem chV_at (l : List Nat) (j : Nat) (h : j < l.length) : (chV l)[j]? = some (.int .i16 ((l.getD j 0 : Nat) - 1024 : Int)) := by simp [chV, List.getElem?_eq_getElem h]
theorem chV_set (l : List Nat) (j c : Nat) : (chV l).set j (.int .i16 ((c : Int) - 1024)) = chV (l.set j c) := by simp [chV, List.map_set]
theorem Val.made {v : Value} {f : FuncId} {args : Array Value} {w : World} (h : Calls Try.prog f args w (Val v w)) : Calls Try.prog f args w (fun e w' => ∃ u, e = .returned u ∧ w.grownBy w' none ∧ Is v u w') :=
  h.mono fun _ _ ⟨he, hg⟩ => ⟨_, he, hg, rfl⟩

set_option maxHeartbeats 1000000 in
theorem of_any (c : Nat) (hc : c ≤ 2048) (w : World) : Calls Try.prog 31 #[.agg #[.int .i16 ((c : Int) - 1024)]] w (Val (.int .i64 (c : Int)) w) := by
  obtain ⟨q, hq⟩ : ∃ q : Int, q = (c : Int) - 1024 := ⟨_, rfl⟩
  have hq1 : -1024 ≤ q ∧ q ≤ 1024 := by omega
  have HQ := Lib.hid (show 1024 + q = (c : Int) by omega)
  rw [← hq]
  clear hq hc
  go_enter Try.func31, Try.ntmps31
  go_wp2
  go_ret
  exact ⟨by rw [← HQ.out]; rfl, grown_alloc (grown_refl _ _) _⟩
set_option maxHeartbeats 1000000 in
theorem bound_any (c m : Nat) (hc : c ≤ 2048) (hm : m < 4294967296) (w : World) : Calls Try.prog 57 #[.agg #[.int .i16 ((c : Int) - 1024)], .int .u32 (m : Int)] w (Val (.int .u32 ((m / 2048 * c : Nat) : Int)) w) := by
  have HO := Lib.hid (fun w => of_any c hc w)
  obtain ⟨q, hq⟩ : ∃ q : Int, q = (c : Int) - 1024 := ⟨_, rfl⟩
  have hq1 : -1024 ≤ q ∧ q ≤ 1024 := by omega
  rw [← hq] at HO
  rw [← hq]
  have HB := Lib.hid (show m / 2048 * c < 4294967296 by
    have : m / 2048 * c ≤ m / 2048 * 2048 := Nat.mul_le_mul_left _ hc
    omega)
  have HC := Lib.hid hc
  clear hq
  go_enter Try.func57, Try.ntmps57
  go_wp2_with fail
  refine (HO.out _).mono ?_
  rintro e w1 ⟨rfl, hg⟩
  have HG := Lib.hid (grown_trans2 (grown_alloc (grown_refl w none) _) hg)
  clear hg
  go_wp2
  go_ret
  refine ⟨?_, HG.out⟩
  rw [← show (((m / 2048 : Nat) : Int) * (c : Int)) % 4294967296 = ((m / 2048 * c : Nat) : Int) by have := HB.out; rw [← Int.natCast_mul]; omega]
  rfl
section
variable {o : Oper} {a : Act} {w : World}
theorem st_fieldC {x : Operand} {g j : Nat} (h : o.op = .fieldAddr 62 x 0) (hx : Is (.pointer (some ⟨g, j, none⟩)) (a.eval x) w) : Runs (Is (.pointer (some ⟨g, j, none⟩))) o a w := by
  have hx' : a.eval x = .pointer (some ⟨g, j, none⟩) := hx
  refine ⟨_, ?_, rfl⟩
  simp only [execOp, h, hx']
  kernel_rfl
theorem ex_loadC {x : Operand} (ho : o.op = .load 62 x) (g j : Nat) (t : TypeId) (cs : List Value) (q : Int) (hv : a.eval x = .pointer (some ⟨g, j, none⟩)) (hr : Row w g t cs) (hx : cs[j]? = some (.int .i16 q)) :
    (execOp a.eval o).run Try.prog w = .ok (.value (.agg #[.int .i16 q])) w :=
  ex_load_part ho g j t cs [.int .i16 q] _ hv hr (fun k u hu => by
    cases k with
    | zero => simp at hu; rw [Nat.add_zero, hx, hu]
    | succ k => simp at hu) Try.underlying62 rfl (by kernel_rfl)
theorem st_quo32 {x : Operand} {p : Int} {d : Nat} (h : o.op = .binOp .quo 3 x (.const (.int .i64 32)) 3) (hx : Is (.int .i64 p) (a.eval x) w) (hd : p / 32 = (d : Int) ∧ 0 ≤ p ∧ p ≤ 4096) : Runs (Is (.int .i64 (d : Int))) o a w := by
  have hx' : a.eval x = .int .i64 p := hx
  have hc : a.eval (.const (.int .i64 32)) = .int .i64 32 := rfl
  have ht : p.tdiv 32 = (d : Int) := by rw [Int.tdiv_eq_ediv_of_nonneg hd.2.1]; exact hd.1
  have hw : IntKind.i64.wrap (d : Int) = (d : Int) := by rw [IntKind.wrap_i64]; omega
  refine ⟨_, ?_, rfl⟩
  simp only [execOp, h, hx', hc]
  simp [go_sem, ht, hw]
theorem st_conv16 {x : Operand} {n : Nat} (h : o.op = .convert 3 60 x) (hx : Is (.int .i64 (n : Int)) (a.eval x) w) (hn : n ≤ 100) : Runs (Is (.int .i16 (n : Int))) o a w := by
  have hx' : a.eval x = .int .i64 (n : Int) := hx
  have hw : IntKind.i16.wrap (n : Int) = (n : Int) := by simp [IntKind.wrap, IntKind.bits, IntKind.signed]; omega
  refine ⟨_, ?_, rfl⟩
  simp only [execOp, h, hx']
  simp [go_sem, hw]
theorem st_add16 {x y : Operand} {p q r : Int} (h : o.op = .binOp .add 60 x y 60) (hx : Is (.int .i16 p) (a.eval x) w) (hy : Is (.int .i16 q) (a.eval y) w) (e : p + q = r ∧ -2048 ≤ r ∧ r ≤ 2048) : Runs (Is (.int .i16 r)) o a w := by
  have hx' : a.eval x = .int .i16 p := hx
  have hy' : a.eval y = .int .i16 q := hy
  have hw : IntKind.i16.wrap (p + q) = r := by simp [IntKind.wrap, IntKind.bits, IntKind.signed]; omega
  refine ⟨_, ?_, rfl⟩
  simp only [execOp, h, hx', hy']
  simp [go_sem, hw]
theorem st_sub16 {x y : Operand} {p q r : Int} (h : o.op = .binOp .sub 60 x y 60) (hx : Is (.int .i16 p) (a.eval x) w) (hy : Is (.int .i16 q) (a.eval y) w) (e : p - q = r ∧ -2048 ≤ r ∧ r ≤ 2048) : Runs (Is (.int .i16 r)) o a w := by
  have hx' : a.eval x = .int .i16 p := hx
  have hy' : a.eval y = .int .i16 q := hy
  have hw : IntKind.i16.wrap (p - q) = r := by simp [IntKind.wrap, IntKind.bits, IntKind.signed]; omega
  refine ⟨_, ?_, rfl⟩
  simp only [execOp, h, hx', hy']
  simp [go_sem, hw]
end
theorem wpList_storeC {ops : Array Oper} {rest : List Oper} {o : Oper} {a : Act} {w : World} {Q : Exit → Act → World → Prop} (hgd : o.guard = none) (hdst : o.dst = none) (x y : Operand) (ho : o.op = .store 60 x y) (g i : Nat) (t : TypeId) (cs : List Value) (r : Int)
    (hv : a.eval x = .pointer (some ⟨g, i, none⟩)) (hy : a.eval y = .int .i16 r) (hr : Row w g t cs) (hi : i < cs.length) (h : wpList Try.prog ops Q rest a (w.setCell ⟨g, i, none⟩ (.int .i16 r))) : wpList Try.prog ops Q (o :: rest) a w := by
  have hf := hr.frozen i
  have hc := hr.cell (j := i) (u := cs[i]) (List.getElem?_eq_getElem hi)
  refine wpList_plain hgd fun _ hK => ?_
  have hrun : (execOp a.eval o).run Try.prog w = .ok .skip (w.setCell ⟨g, i, none⟩ (.int .i16 r)) := by
    simp only [execOp, ho, hv, hy]
    simp [go_sem, hc, hf]
  unfold Oper.wp
  rw [hrun, Oper.upon_skip]
  refine hK _ _ ?_
  rw [hdst]
  exact h
-- MADE by tools/mkcodb.py

/-- What learning leaves. -/
def LOut (g j : Nat) (t : TypeId) (l : List Nat) (b : Bool) (w : World) (e : Ending) (w' : World) : Prop := e = .returned (.tuple #[]) ∧ Row w' g t (chV (l.set j (saw (l.getD j 0) b))) ∧ w.grownBy w' (some g)
set_option maxHeartbeats 4000000 in
theorem learn_at (g j : Nat) (t : TypeId) (l : List Nat) (p : Int) (w : World) (hr : Row w g t (chV l)) (hj : j < l.length) (hl : Okl l) :
    Calls Try.prog 58 #[.pointer (some ⟨g, j, none⟩), .int .i64 p] w (LOut g j t l (decide (p ≠ 0)) w) := by
  have hk := hl.at_ hj
  have HC := Lib.hid (chV_at l j hj)
  have HJ := Lib.hid (show j < (chV l).length by rw [chV_len]; exact hj)
  have HR := Lib.hid hr
  have HLS := Lib.hid (show ∀ x, l.set j x = l.set j x from fun _ => rfl)
  unfold LOut
  generalize l.getD j 0 = c at *
  obtain ⟨hk1, hk2⟩ := hk
  have HO := Lib.hid (fun w => of_any c (by omega) w)
  obtain ⟨q, hq⟩ : ∃ q : Int, q = (c : Int) - 1024 := ⟨_, rfl⟩
  rw [← hq] at HC HO
  have HQ := Lib.hid hq
  have HK := Lib.hid (And.intro hk1 hk2)
  clear hq hr hj hl HLS
  by_cases h0 : p = 0
  · subst h0
    obtain ⟨d, hd⟩ : ∃ d, d = (2048 - c) / 32 := ⟨_, rfl⟩
    obtain ⟨r, hr⟩ : ∃ r : Int, r = q + d := ⟨_, rfl⟩
    have HD := Lib.hid (show (2048 - (c : Int)) / 32 = (d : Int) ∧ 0 ≤ 2048 - (c : Int) ∧ 2048 - (c : Int) ≤ 4096 by omega)
    have HD2 := Lib.hid (show d ≤ 100 by omega)
    have HRR := Lib.hid (show q + (d : Int) = r ∧ -2048 ≤ r ∧ r ≤ 2048 by have := HQ.out; omega)
    have HSAW := Lib.hid (show saw c (decide ((0 : Int) ≠ 0)) = c + d by rw [hd]; rfl)
    have HRV := Lib.hid (show r = (((c + d : Nat) : Int)) - 1024 by have := HQ.out; omega)
    clear hd hr hk1 hk2
    go_enter Try.func58, Try.ntmps58
    go_wp2
    refine wp_region_walk3 14 [] dis_nil (by kernel_rfl) (by kernel_rfl) (by kernel_rfl) ?_
    simp only [List.take_succ_cons, List.take_zero, List.drop_succ_cons, List.drop_zero]
    refine Walk.val (G := Is (.pointer (some ⟨g, j, none⟩))) (stays_is _ _) rfl rfl (fun a w hm hd => ⟨wanted_plain rfl, st_move rfl (by rw [hm.outer 0 (by kernel_rfl)]; rfl)⟩) ?_
    refine Walk.val (G := Is (.pointer (some ⟨g, j, none⟩))) (stays_is _ _) rfl rfl (fun a w hm hd => ⟨wanted_plain rfl, st_nil rfl (hd.at_ 0 rfl rfl rfl rfl)⟩) ?_
    refine Walk.val (G := Is (.pointer (some ⟨g, j, none⟩))) (stays_is _ _) rfl rfl (fun a w hm hd => ⟨wanted_plain rfl, st_fieldC rfl (hd.at_ 1 rfl rfl rfl rfl)⟩) ?_
    refine Walk.val (G := Is (.int .i16 q)) (stays_is _ _) rfl rfl (fun a w hm hd => ⟨wanted_plain rfl, st_cell rfl (fun _ => by kernel_rfl) (hd.at_ 2 rfl rfl rfl rfl) ((HR.out.grown0 (GrownX.none2 hm.grow)).cell HC.out)⟩) ?_
    refine Walk.val (G := Is (.pointer (some ⟨g, j, none⟩))) (stays_is _ _) rfl rfl (fun a w hm hd => ⟨wanted_plain rfl, st_move rfl (by rw [hm.outer 0 (by kernel_rfl)]; rfl)⟩) ?_
    refine Walk.val (G := Is (.pointer (some ⟨g, j, none⟩))) (stays_is _ _) rfl rfl (fun a w hm hd => ⟨wanted_plain rfl, st_nil rfl (hd.at_ 4 rfl rfl rfl rfl)⟩) ?_
    refine Walk.val (G := Is (.agg #[.int .i16 q])) (stays_is _ _) rfl rfl (fun a w hm hd => ⟨wanted_plain rfl, ⟨_, ex_loadC rfl g j t _ q (hd.at_ 5 rfl rfl rfl rfl) (HR.out.grown0 (GrownX.none2 hm.grow)) HC.out, rfl⟩⟩) ?_
    refine Walk.call (G := Is (.int .i64 (c : Int))) (stays_is _ _) rfl 31 rfl (fun a w hm ha hd => ⟨wanted_plain rfl, _, ex_call1 Try.func31 (by kernel_rfl) (by kernel_rfl) rfl, by rw [show a.eval (.tmp 12) = _ from (hd.at_ 6 rfl rfl rfl rfl)]; exact Val.made (HO.out w)⟩) ?_
    refine Walk.val (G := Is (.int .i64 (2048 - c : Int))) (stays_is _ _) rfl rfl (fun a w hm hd => ⟨wanted_plain rfl, st_subi rfl rfl (hd.at_ 7 rfl rfl rfl rfl) rfl (by have := HK.out; omega)⟩) ?_
    refine Walk.val (G := Is (.int .i64 (d : Int))) (stays_is _ _) rfl rfl (fun a w hm hd => ⟨wanted_plain rfl, st_quo32 rfl (hd.at_ 8 rfl rfl rfl rfl) HD.out⟩) ?_
    refine Walk.val (G := Is (.int .i16 (d : Int))) (stays_is _ _) rfl rfl (fun a w hm hd => ⟨wanted_plain rfl, st_conv16 rfl (hd.at_ 9 rfl rfl rfl rfl) HD2.out⟩) ?_
    refine Walk.val (G := Is (.int .i16 r)) (stays_is _ _) rfl rfl (fun a w hm hd => ⟨wanted_plain rfl, st_add16 rfl (hd.at_ 3 rfl rfl rfl rfl) (hd.at_ 10 rfl rfl rfl rfl) HRR.out⟩) ?_
    refine Walk.val (G := Is (.pointer (some ⟨g, j, none⟩))) (stays_is _ _) rfl rfl (fun a w hm hd => ⟨wanted_plain rfl, st_nil rfl (hd.at_ 0 rfl rfl rfl rfl)⟩) ?_
    refine Walk.val (G := Is (.pointer (some ⟨g, j, none⟩))) (stays_is _ _) rfl rfl (fun a w hm hd => ⟨wanted_plain rfl, st_fieldC rfl (hd.at_ 12 rfl rfl rfl rfl)⟩) ?_
    intro a9 V9 hm9 hall
    have f6 : Is (.pointer (some ⟨g, j, none⟩)) (a9.eval (.tmp 6)) V9 := hall 0 _ _ rfl rfl
    have f7 : Is (.pointer (some ⟨g, j, none⟩)) (a9.eval (.tmp 7)) V9 := hall 1 _ _ rfl rfl
    have f8 : Is (.pointer (some ⟨g, j, none⟩)) (a9.eval (.tmp 8)) V9 := hall 2 _ _ rfl rfl
    have f9 : Is (.int .i16 q) (a9.eval (.tmp 9)) V9 := hall 3 _ _ rfl rfl
    have f10 : Is (.pointer (some ⟨g, j, none⟩)) (a9.eval (.tmp 10)) V9 := hall 4 _ _ rfl rfl
    have f11 : Is (.pointer (some ⟨g, j, none⟩)) (a9.eval (.tmp 11)) V9 := hall 5 _ _ rfl rfl
    have f12 : Is (.agg #[.int .i16 q]) (a9.eval (.tmp 12)) V9 := hall 6 _ _ rfl rfl
    have f13 : Is (.int .i64 (c : Int)) (a9.eval (.tmp 13)) V9 := hall 7 _ _ rfl rfl
    have f14 : Is (.int .i64 (2048 - c : Int)) (a9.eval (.tmp 14)) V9 := hall 8 _ _ rfl rfl
    have f15 : Is (.int .i64 (d : Int)) (a9.eval (.tmp 15)) V9 := hall 9 _ _ rfl rfl
    have f16 : Is (.int .i16 (d : Int)) (a9.eval (.tmp 16)) V9 := hall 10 _ _ rfl rfl
    have f17 : Is (.int .i16 r) (a9.eval (.tmp 17)) V9 := hall 11 _ _ rfl rfl
    have f18 : Is (.pointer (some ⟨g, j, none⟩)) (a9.eval (.tmp 18)) V9 := hall 12 _ _ rfl rfl
    have f19 : Is (.pointer (some ⟨g, j, none⟩)) (a9.eval (.tmp 19)) V9 := hall 13 _ _ rfl rfl
    have hfr := hm9.frame
    simp only [List.take_succ_cons, List.take_zero, List.filterMap_cons, List.filterMap_nil, List.foldl_cons, List.foldl_nil] at hfr
    have hgV9 := GrownX.none2 hm9.grow
    have f6 : a9.eval (.tmp 6) = _ := f6
    rw [f6] at hfr
    have f7 : a9.eval (.tmp 7) = _ := f7
    rw [f7] at hfr
    have f8 : a9.eval (.tmp 8) = _ := f8
    rw [f8] at hfr
    have f9 : a9.eval (.tmp 9) = _ := f9
    rw [f9] at hfr
    have f10 : a9.eval (.tmp 10) = _ := f10
    rw [f10] at hfr
    have f11 : a9.eval (.tmp 11) = _ := f11
    rw [f11] at hfr
    have f12 : a9.eval (.tmp 12) = _ := f12
    rw [f12] at hfr
    have f13 : a9.eval (.tmp 13) = _ := f13
    rw [f13] at hfr
    have f14 : a9.eval (.tmp 14) = _ := f14
    rw [f14] at hfr
    have f15 : a9.eval (.tmp 15) = _ := f15
    rw [f15] at hfr
    have f16 : a9.eval (.tmp 16) = _ := f16
    rw [f16] at hfr
    have f17 : a9.eval (.tmp 17) = _ := f17
    rw [f17] at hfr
    have f18 : a9.eval (.tmp 18) = _ := f18
    rw [f18] at hfr
    have f19 : a9.eval (.tmp 19) = _ := f19
    rw [f19] at hfr
    clear hall hm9
    have R9 := HR.out.grown0 hgV9
    refine wpList_storeC rfl rfl _ _ rfl g j t _ r f19 f17 R9 HJ.out ?_
    have R3 := R9.set j (.int .i16 r)
    have G3 := grown_trans2 (grown_none hgV9 (some g)) (grown_set V9 g j (.int .i16 r))
    generalize V9.setCell ⟨g, j, none⟩ (.int .i16 r) = W3 at *
    have HE := Lib.hid (And.intro R3 G3)
    clear f6
    clear f7
    clear f8
    clear f9
    clear f10
    clear f11
    clear f12
    clear f13
    clear f14
    clear f15
    clear f16
    clear f17
    clear f18
    clear f19
    clear R9 R3 G3 hgV9
    unfold wpList
    rw [hfr]
    clear hfr
    go_simp
    go_wp2
    refine bodyPost_end (results_none rfl _ _ _) rfl ?_
    refine ⟨rfl, ?_, HE.out.2⟩
    have h3 := HE.out.1
    rw [HRV.out, chV_set] at h3
    rw [HSAW.out]
    exact h3
  · have hq0 : (p == 0) = false := by simpa using h0
    have hdq : decide (p ≠ 0) = true := by simpa using h0
    rw [hdq]
    obtain ⟨d, hd⟩ : ∃ d, d = c / 32 := ⟨_, rfl⟩
    obtain ⟨r, hr⟩ : ∃ r : Int, r = q - d := ⟨_, rfl⟩
    have HD := Lib.hid (show (c : Int) / 32 = (d : Int) ∧ 0 ≤ (c : Int) ∧ (c : Int) ≤ 4096 by omega)
    have HD2 := Lib.hid (show d ≤ 100 by omega)
    have HRR := Lib.hid (show q - (d : Int) = r ∧ -2048 ≤ r ∧ r ≤ 2048 by have := HQ.out; omega)
    have HSAW := Lib.hid (show saw c true = c - d by rw [hd]; rfl)
    have HRV := Lib.hid (show r = (((c - d : Nat) : Int)) - 1024 by have := HQ.out; omega)
    clear hd hr hk1 hk2 h0 hdq
    go_enter Try.func58, Try.ntmps58
    go_wp2
    refine wp_region_walk3 13 [] dis_nil (by kernel_rfl) (by kernel_rfl) (by kernel_rfl) ?_
    simp only [List.take_succ_cons, List.take_zero, List.drop_succ_cons, List.drop_zero]
    refine Walk.val (G := Is (.pointer (some ⟨g, j, none⟩))) (stays_is _ _) rfl rfl (fun a w hm hd => ⟨wanted_plain rfl, st_move rfl (by rw [hm.outer 0 (by kernel_rfl)]; rfl)⟩) ?_
    refine Walk.val (G := Is (.pointer (some ⟨g, j, none⟩))) (stays_is _ _) rfl rfl (fun a w hm hd => ⟨wanted_plain rfl, st_nil rfl (hd.at_ 0 rfl rfl rfl rfl)⟩) ?_
    refine Walk.val (G := Is (.pointer (some ⟨g, j, none⟩))) (stays_is _ _) rfl rfl (fun a w hm hd => ⟨wanted_plain rfl, st_fieldC rfl (hd.at_ 1 rfl rfl rfl rfl)⟩) ?_
    refine Walk.val (G := Is (.int .i16 q)) (stays_is _ _) rfl rfl (fun a w hm hd => ⟨wanted_plain rfl, st_cell rfl (fun _ => by kernel_rfl) (hd.at_ 2 rfl rfl rfl rfl) ((HR.out.grown0 (GrownX.none2 hm.grow)).cell HC.out)⟩) ?_
    refine Walk.val (G := Is (.pointer (some ⟨g, j, none⟩))) (stays_is _ _) rfl rfl (fun a w hm hd => ⟨wanted_plain rfl, st_move rfl (by rw [hm.outer 0 (by kernel_rfl)]; rfl)⟩) ?_
    refine Walk.val (G := Is (.pointer (some ⟨g, j, none⟩))) (stays_is _ _) rfl rfl (fun a w hm hd => ⟨wanted_plain rfl, st_nil rfl (hd.at_ 4 rfl rfl rfl rfl)⟩) ?_
    refine Walk.val (G := Is (.agg #[.int .i16 q])) (stays_is _ _) rfl rfl (fun a w hm hd => ⟨wanted_plain rfl, ⟨_, ex_loadC rfl g j t _ q (hd.at_ 5 rfl rfl rfl rfl) (HR.out.grown0 (GrownX.none2 hm.grow)) HC.out, rfl⟩⟩) ?_
    refine Walk.call (G := Is (.int .i64 (c : Int))) (stays_is _ _) rfl 31 rfl (fun a w hm ha hd => ⟨wanted_plain rfl, _, ex_call1 Try.func31 (by kernel_rfl) (by kernel_rfl) rfl, by rw [show a.eval (.tmp 26) = _ from (hd.at_ 6 rfl rfl rfl rfl)]; exact Val.made (HO.out w)⟩) ?_
    refine Walk.val (G := Is (.int .i64 (d : Int))) (stays_is _ _) rfl rfl (fun a w hm hd => ⟨wanted_plain rfl, st_quo32 rfl (hd.at_ 7 rfl rfl rfl rfl) HD.out⟩) ?_
    refine Walk.val (G := Is (.int .i16 (d : Int))) (stays_is _ _) rfl rfl (fun a w hm hd => ⟨wanted_plain rfl, st_conv16 rfl (hd.at_ 8 rfl rfl rfl rfl) HD2.out⟩) ?_
    refine Walk.val (G := Is (.int .i16 r)) (stays_is _ _) rfl rfl (fun a w hm hd => ⟨wanted_plain rfl, st_sub16 rfl (hd.at_ 3 rfl rfl rfl rfl) (hd.at_ 9 rfl rfl rfl rfl) HRR.out⟩) ?_
    refine Walk.val (G := Is (.pointer (some ⟨g, j, none⟩))) (stays_is _ _) rfl rfl (fun a w hm hd => ⟨wanted_plain rfl, st_nil rfl (hd.at_ 0 rfl rfl rfl rfl)⟩) ?_
    refine Walk.val (G := Is (.pointer (some ⟨g, j, none⟩))) (stays_is _ _) rfl rfl (fun a w hm hd => ⟨wanted_plain rfl, st_fieldC rfl (hd.at_ 11 rfl rfl rfl rfl)⟩) ?_
    intro a9 V9 hm9 hall
    have f20 : Is (.pointer (some ⟨g, j, none⟩)) (a9.eval (.tmp 20)) V9 := hall 0 _ _ rfl rfl
    have f21 : Is (.pointer (some ⟨g, j, none⟩)) (a9.eval (.tmp 21)) V9 := hall 1 _ _ rfl rfl
    have f22 : Is (.pointer (some ⟨g, j, none⟩)) (a9.eval (.tmp 22)) V9 := hall 2 _ _ rfl rfl
    have f23 : Is (.int .i16 q) (a9.eval (.tmp 23)) V9 := hall 3 _ _ rfl rfl
    have f24 : Is (.pointer (some ⟨g, j, none⟩)) (a9.eval (.tmp 24)) V9 := hall 4 _ _ rfl rfl
    have f25 : Is (.pointer (some ⟨g, j, none⟩)) (a9.eval (.tmp 25)) V9 := hall 5 _ _ rfl rfl
    have f26 : Is (.agg #[.int .i16 q]) (a9.eval (.tmp 26)) V9 := hall 6 _ _ rfl rfl
    have f27 : Is (.int .i64 (c : Int)) (a9.eval (.tmp 27)) V9 := hall 7 _ _ rfl rfl
    have f28 : Is (.int .i64 (d : Int)) (a9.eval (.tmp 28)) V9 := hall 8 _ _ rfl rfl
    have f29 : Is (.int .i16 (d : Int)) (a9.eval (.tmp 29)) V9 := hall 9 _ _ rfl rfl
    have f30 : Is (.int .i16 r) (a9.eval (.tmp 30)) V9 := hall 10 _ _ rfl rfl
    have f31 : Is (.pointer (some ⟨g, j, none⟩)) (a9.eval (.tmp 31)) V9 := hall 11 _ _ rfl rfl
    have f32 : Is (.pointer (some ⟨g, j, none⟩)) (a9.eval (.tmp 32)) V9 := hall 12 _ _ rfl rfl
    have hfr := hm9.frame
    simp only [List.take_succ_cons, List.take_zero, List.filterMap_cons, List.filterMap_nil, List.foldl_cons, List.foldl_nil] at hfr
    have hgV9 := GrownX.none2 hm9.grow
    have f20 : a9.eval (.tmp 20) = _ := f20
    rw [f20] at hfr
    have f21 : a9.eval (.tmp 21) = _ := f21
    rw [f21] at hfr
    have f22 : a9.eval (.tmp 22) = _ := f22
    rw [f22] at hfr
    have f23 : a9.eval (.tmp 23) = _ := f23
    rw [f23] at hfr
    have f24 : a9.eval (.tmp 24) = _ := f24
    rw [f24] at hfr
    have f25 : a9.eval (.tmp 25) = _ := f25
    rw [f25] at hfr
    have f26 : a9.eval (.tmp 26) = _ := f26
    rw [f26] at hfr
    have f27 : a9.eval (.tmp 27) = _ := f27
    rw [f27] at hfr
    have f28 : a9.eval (.tmp 28) = _ := f28
    rw [f28] at hfr
    have f29 : a9.eval (.tmp 29) = _ := f29
    rw [f29] at hfr
    have f30 : a9.eval (.tmp 30) = _ := f30
    rw [f30] at hfr
    have f31 : a9.eval (.tmp 31) = _ := f31
    rw [f31] at hfr
    have f32 : a9.eval (.tmp 32) = _ := f32
    rw [f32] at hfr
    clear hall hm9
    have R9 := HR.out.grown0 hgV9
    refine wpList_storeC rfl rfl _ _ rfl g j t _ r f32 f30 R9 HJ.out ?_
    have R3 := R9.set j (.int .i16 r)
    have G3 := grown_trans2 (grown_none hgV9 (some g)) (grown_set V9 g j (.int .i16 r))
    generalize V9.setCell ⟨g, j, none⟩ (.int .i16 r) = W3 at *
    have HE := Lib.hid (And.intro R3 G3)
    clear f20
    clear f21
    clear f22
    clear f23
    clear f24
    clear f25
    clear f26
    clear f27
    clear f28
    clear f29
    clear f30
    clear f31
    clear f32
    clear R9 R3 G3 hgV9
    unfold wpList
    rw [hfr]
    clear hfr
    go_simp
    go_wp2
    refine bodyPost_end (results_none rfl _ _ _) rfl ?_
    refine ⟨rfl, ?_, HE.out.2⟩
    have h3 := HE.out.1
    rw [HRV.out, chV_set] at h3
    rw [HSAW.out]
    exact h3
end Go.Proofs.Ytibofgokdjbomaa

/-
  coder's Writer's Bit over this program.
-/
namespace Go.Proofs.Ytibofgokdjbomaa
set_option maxRecDepth 1000000
open Go.RowKit

def SameW (v : Value) (w : World) (e : Ending) (w' : World) : Prop := e = .returned v ∧ w' = w
set_option maxHeartbeats 400000 in
theorem begun_nil (w : World) : Calls Try.prog 55 #[.pointer none] w (SameW (.bool false) w) := by
  go_enter Try.func55, Try.ntmps55
  go_wp2
  go_ret
  exact ⟨rfl, rfl⟩
set_option maxHeartbeats 400000 in
theorem begun_at (g : Nat) (vb : Option Nat) (s : Cst) (w : World) (h : Wt w g vb s) : Calls Try.prog 55 #[.pointer (some ⟨g, 0, none⟩)] w (SameW (.bool (decide (0 < s.width))) w) := by
  obtain ⟨v, hrow, _⟩ := h
  have r2 := hrow.cell (j := 2) rfl
  clear hrow
  generalize s.width = m at *
  by_cases hm : 0 < m
  · have hd : decide (0 < (m : Int)) = true := by simp; omega
    have hd' : decide (0 < m) = true := by simp; omega
    go_enter Try.func55, Try.ntmps55
    go_wp2
    go_ret
    exact ⟨by rw [hd']; rfl, rfl⟩
  · have hd : decide (0 < (m : Int)) = false := by simp; omega
    have hd' : decide (0 < m) = false := by simp; omega
    go_enter Try.func55, Try.ntmps55
    go_wp2
    go_ret
    exact ⟨by rw [hd']; rfl, rfl⟩

/-- What a writer's Bit answers. -/
def BOut (g : Nat) (vb : Option Nat) (gc : Nat) (t : TypeId) (p : Cst × List Nat) (w : World) (e : Ending) (w' : World) : Prop :=
  e = .returned (.tuple #[]) ∧ ∃ vb', Wt w' g vb' p.1 ∧ Row w' gc t (chV p.2) ∧ Wn [g, gc] w vb w' vb'
set_option maxHeartbeats 4000000 in
theorem bit_at (g : Nat) (vb : Option Nat) (s : Cst) (gc j : Nat) (t : TypeId) (l : List Nat) (q : Int) (w : World) (h : Wt w g vb s) (hs : Okc s) (hl : s.out.length ≤ 900000000) (hr : Row w gc t (chV l)) (hj : j < l.length) (hok : Okl l) (hne : gc ≠ g ∧ vb ≠ some gc) :
    Calls Try.prog 25 #[.pointer (some ⟨g, 0, none⟩), .pointer (some ⟨gc, j, none⟩), .int .i64 q] w (BOut g vb gc t (bitS s l j (decide (q ≠ 0))) w) := by
  have HW := Lib.hid h
  have HS := Lib.hid hs
  have HL := Lib.hid hl
  have HR := Lib.hid hr
  have HJ := Lib.hid hj
  have HOK := Lib.hid hok
  have HNE := Lib.hid hne
  have HBG := Lib.hid (begun_at g vb s w h)
  rw [show decide (0 < s.width) = true by have := hs.wide; simp; omega] at HBG
  obtain ⟨v, hrow, _⟩ := h
  have HROW := Lib.hid hrow
  have HC := Lib.hid (chV_at l j hj)
  have HCB := Lib.hid (bound_ok hs (hok.at_ hj))
  obtain ⟨k1, k2⟩ := hok.at_ hj
  have HP := Lib.hid (fun W => Val.made (bound_any (l.getD j 0) s.width (by omega) hs.most W))
  obtain ⟨bd, hbd⟩ : ∃ bd, bd = s.width / 2048 * l.getD j 0 := ⟨_, rfl⟩
  rw [← hbd] at HCB HP
  have HBD := Lib.hid hbd
  obtain ⟨z, hz⟩ : ∃ z : Int, z = ((l.getD j 0 : Nat) - 1024 : Int) := ⟨_, rfl⟩
  rw [← hz] at HC HP
  have HPUT := Lib.hid (fun W (hW : Wt W g vb s) => put_at g vb s bd q W hW HS.out HCB.out HL.out)
  have HLN := Lib.hid (fun W (hW : Row W gc t (chV l)) => learn_at gc j t l q W hW HJ.out HOK.out)
  obtain ⟨bb, hbb⟩ : ∃ bb, bb = decide (q ≠ 0) := ⟨_, rfl⟩
  rw [← hbb] at HPUT HLN
  rw [← hbb]
  clear hs hl hr hj hok hne k1 k2 hbd hz hrow hbb
  go_enter Try.func25, Try.ntmps25
  go_wp2_with fail
  refine HBG.out.mono ?_
  rintro e w1 ⟨rfl, hw1⟩
  obtain rfl := hw1.symm
  go_wp2
  refine wp_region_walk3 10 [] dis_nil (by kernel_rfl) (by kernel_rfl) (by kernel_rfl) ?_
  simp only [List.take_succ_cons, List.take_zero, List.drop_succ_cons, List.drop_zero]
  refine Walk.val (G := Is (.pointer (some ⟨g, 0, none⟩))) (stays_is _ _) rfl rfl (fun a w hm hd => ⟨wanted_plain rfl, st_move rfl (by rw [hm.outer 0 (by kernel_rfl)]; rfl)⟩) ?_
  refine Walk.val (G := Is (.pointer (some ⟨gc, j, none⟩))) (stays_is _ _) rfl rfl (fun a w hm hd => ⟨wanted_plain rfl, st_move rfl (by rw [hm.outer 1 (by kernel_rfl)]; rfl)⟩) ?_
  refine Walk.val (G := Is (.pointer (some ⟨gc, j, none⟩))) (stays_is _ _) rfl rfl (fun a w hm hd => ⟨wanted_plain rfl, st_nil rfl (hd.at_ 1 rfl rfl rfl rfl)⟩) ?_
  refine Walk.val (G := Is (.agg #[.int .i16 z])) (stays_is _ _) rfl rfl (fun a w hm hd => ⟨wanted_plain rfl, ⟨_, ex_loadC rfl gc j t _ z (hd.at_ 2 rfl rfl rfl rfl) (HR.out.grown0 (GrownX.none2 hm.grow)) HC.out, rfl⟩⟩) ?_
  refine Walk.val (G := Is (.pointer (some ⟨g, 0, none⟩))) (stays_is _ _) rfl rfl (fun a w hm hd => ⟨wanted_plain rfl, st_move rfl (by rw [hm.outer 0 (by kernel_rfl)]; rfl)⟩) ?_
  refine Walk.val (G := Is (.pointer (some ⟨g, 0, none⟩))) (stays_is _ _) rfl rfl (fun a w hm hd => ⟨wanted_plain rfl, st_nil rfl (hd.at_ 4 rfl rfl rfl rfl)⟩) ?_
  refine Walk.val (G := Is (.pointer (some ⟨g, 2, none⟩))) (stays_is _ _) rfl rfl (fun a w hm hd => ⟨wanted_plain rfl, st_fieldW2 rfl (hd.at_ 5 rfl rfl rfl rfl)⟩) ?_
  refine Walk.val (G := Is (.int .u32 (s.width : Int))) (stays_is _ _) rfl rfl (fun a w hm hd => ⟨wanted_plain rfl, st_cell rfl (fun _ => by kernel_rfl) (hd.at_ 6 rfl rfl rfl rfl) ((HROW.out.grown0 (GrownX.none2 hm.grow)).cell (j := 2) rfl)⟩) ?_
  refine Walk.call (G := Is (.int .u32 (bd : Int))) (stays_is _ _) rfl 57 rfl (fun a w hm ha hd => ⟨wanted_plain rfl, _, ex_call2 Try.func57 (by kernel_rfl) (by kernel_rfl) rfl, by rw [show a.eval (.tmp 16) = _ from (hd.at_ 3 rfl rfl rfl rfl), show a.eval (.tmp 20) = _ from (hd.at_ 7 rfl rfl rfl rfl)]; exact HP.out w⟩) ?_
  refine Walk.val (G := Is (.int .i64 q)) (stays_is _ _) rfl rfl (fun a w hm hd => ⟨wanted_plain rfl, st_move rfl (by rw [hm.outer 2 (by kernel_rfl)]; rfl)⟩) ?_
  intro a9 V9 hm9 hall
  have f13 : Is (.pointer (some ⟨g, 0, none⟩)) (a9.eval (.tmp 13)) V9 := hall 0 _ _ rfl rfl
  have f14 : Is (.pointer (some ⟨gc, j, none⟩)) (a9.eval (.tmp 14)) V9 := hall 1 _ _ rfl rfl
  have f15 : Is (.pointer (some ⟨gc, j, none⟩)) (a9.eval (.tmp 15)) V9 := hall 2 _ _ rfl rfl
  have f16 : Is (.agg #[.int .i16 z]) (a9.eval (.tmp 16)) V9 := hall 3 _ _ rfl rfl
  have f17 : Is (.pointer (some ⟨g, 0, none⟩)) (a9.eval (.tmp 17)) V9 := hall 4 _ _ rfl rfl
  have f18 : Is (.pointer (some ⟨g, 0, none⟩)) (a9.eval (.tmp 18)) V9 := hall 5 _ _ rfl rfl
  have f19 : Is (.pointer (some ⟨g, 2, none⟩)) (a9.eval (.tmp 19)) V9 := hall 6 _ _ rfl rfl
  have f20 : Is (.int .u32 (s.width : Int)) (a9.eval (.tmp 20)) V9 := hall 7 _ _ rfl rfl
  have f21 : Is (.int .u32 (bd : Int)) (a9.eval (.tmp 21)) V9 := hall 8 _ _ rfl rfl
  have f22 : Is (.int .i64 q) (a9.eval (.tmp 22)) V9 := hall 9 _ _ rfl rfl
  have hfr := hm9.frame
  simp only [List.take_succ_cons, List.take_zero, List.filterMap_cons, List.filterMap_nil, List.foldl_cons, List.foldl_nil] at hfr
  have hgV9 := GrownX.none2 hm9.grow
  have f13 : a9.eval (.tmp 13) = _ := f13
  rw [f13] at hfr
  have f14 : a9.eval (.tmp 14) = _ := f14
  rw [f14] at hfr
  have f15 : a9.eval (.tmp 15) = _ := f15
  rw [f15] at hfr
  have f16 : a9.eval (.tmp 16) = _ := f16
  rw [f16] at hfr
  have f17 : a9.eval (.tmp 17) = _ := f17
  rw [f17] at hfr
  have f18 : a9.eval (.tmp 18) = _ := f18
  rw [f18] at hfr
  have f19 : a9.eval (.tmp 19) = _ := f19
  rw [f19] at hfr
  have f20 : a9.eval (.tmp 20) = _ := f20
  rw [f20] at hfr
  have f21 : a9.eval (.tmp 21) = _ := f21
  rw [f21] at hfr
  have f22 : a9.eval (.tmp 22) = _ := f22
  rw [f22] at hfr
  clear hall hm9
  have H9 := Lib.hid (HW.out.grown0 hgV9)
  have R9 := Lib.hid (HR.out.grown0 hgV9)
  have G9 := Lib.hid hgV9
  clear hgV9
  clear f13
  clear f14
  clear f15
  clear f16
  clear f17
  clear f18
  clear f19
  clear f20
  clear f21
  clear f22
  unfold wpList
  rw [hfr]
  clear hfr
  go_simp
  go_wp2_with fail
  refine .inl ((HPUT.out V9 H9.out).mono ?_)
  rintro e w2 ⟨rfl, vb', ht2, hn2⟩
  have HT2 := Lib.hid ht2
  have HN2 := Lib.hid (((Wn.refl [g] w vb).grown0 G9.out).trans hn2)
  have HR2 := Lib.hid (R9.out.wn hn2 (fun e => HNE.out.1 (List.mem_singleton.1 e)) (fun e => HNE.out.2 e.symm))
  clear ht2 hn2
  go_wp2_with fail
  refine (HLN.out w2 HR2.out).mono ?_
  rintro e w3 ⟨rfl, hr3, hg3⟩
  have HE := Lib.hid (And.intro hr3 hg3)
  clear hr3 hg3
  go_wp2
  refine bodyPost_end (results_none rfl _ _ _) rfl ?_
  have hvb' : vb' ≠ some gc := by
    rcases HN2.out.row with e | ⟨b, e, hb⟩
    · rw [e]; exact HNE.out.2
    · rw [e]; intro e2; cases e2; have := HR.out.lt; omega
  refine ⟨rfl, vb', ?_, HE.out.1, ?_⟩
  · have := HT2.out.grown HE.out.2 (by intro e; cases e; exact HNE.out.1 rfl) (fun b hb e => by cases e; exact hvb' hb)
    rw [HBD.out] at this
    exact this
  · exact (HN2.out.mono (fun k hk => by simp at hk; simp [hk])).grown HE.out.2 (fun b e => by cases e; exact .inl (by simp))
end Go.Proofs.Ytibofgokdjbomaa

/-
  coder's Writer's Even over this program.
-/
namespace Go.Proofs.Ytibofgokdjbomaa
set_option maxRecDepth 1000000
open Go.RowKit

set_option maxHeartbeats 400000 in
theorem isEven_yes (B : Nat) (h : B ≤ 32) (w : World) : Calls Try.prog 60 #[.int .i64 (B : Int)] w (SameW (.bool true) w) := by
  have h1 : decide ((B : Int) ≤ 32) = true := by simp; omega
  have h0 : decide (0 ≤ (B : Int)) = true := by simp
  go_enter Try.func60, Try.ntmps60
  go_wp2
  go_ret
  exact ⟨rfl, rfl⟩
set_option maxHeartbeats 400000 in
theorem isEven_no (q : Int) (h : q < 0 ∨ 32 < q) (w : World) : Calls Try.prog 60 #[.int .i64 q] w (SameW (.bool false) w) := by
  by_cases h0 : q < 0
  · have h1 : decide (0 ≤ q) = false := by simp; omega
    go_enter Try.func60, Try.ntmps60
    go_wp2
    go_ret
    exact ⟨rfl, rfl⟩
  · have h1 : decide (0 ≤ q) = true := by simp; omega
    have h2 : decide (q ≤ 32) = false := by simp; omega
    go_enter Try.func60, Try.ntmps60
    go_wp2
    go_ret
    exact ⟨rfl, rfl⟩

set_option maxHeartbeats 4000000 in
theorem even_at (g : Nat) (vb : Option Nat) (s : Cst) (n : Int) (B : Nat) (w : World) (h : Wt w g vb s) (hs : Okc s) (hl : s.out.length ≤ 800000000) (hB : B ≤ 32) (hn : -9223372036854775808 ≤ n ∧ n ≤ 9223372036854775807) :
    Calls Try.prog 28 #[.pointer (some ⟨g, 0, none⟩), .int .i64 n, .int .i64 (B : Int)] w (WOut g vb (evenS s n B) w) := by
  have HW := Lib.hid h
  have HS := Lib.hid hs
  have HL := Lib.hid hl
  have HB := Lib.hid hB
  have HBG := Lib.hid (begun_at g vb s w h)
  rw [show decide (0 < s.width) = true by have := hs.wide; simp; omega] at HBG
  have HIE := Lib.hid (isEven_yes B hB w)
  clear h hs hl
  go_enter Try.func28, Try.ntmps28
  go_wp2_with fail
  refine HBG.out.mono ?_
  rintro e w1 ⟨rfl, hw1⟩
  obtain rfl := hw1.symm
  go_wp2_with fail
  refine HIE.out.mono ?_
  rintro e w1 ⟨rfl, hw1⟩
  obtain rfl := hw1.symm
  go_wp2
  go_loopw [16] (fun i W => ∃ (k : Nat) (S : Cst) (vb' : Option Nat), k ≤ B ∧ i = .int .i64 k ∧ Okc S ∧ S.out.length ≤ s.out.length + k ∧ evenS S n (B - k) = evenS s n B ∧ Wt W g vb' S ∧ Wn [g] w vb W vb') (fun i _ => B - (intOf i).toNat)
  case atStart => exact ⟨0, s, vb, Nat.zero_le _, rfl, HS.out, Nat.le_refl _, rfl, HW.out, Wn.refl _ _ _⟩
  case round =>
    obtain ⟨k, S, vb', hk, rfl, hok, hlen, hev, hwt, hwn⟩ := hrel
    have HH := Lib.hid (And.intro hok (And.intro hlen (And.intro hev (And.intro hwt hwn))))
    by_cases hlt : k < B
    · have hd : decide ((k : Int) < (B : Int)) = true := by simp; omega
      obtain ⟨v, hrow, _⟩ := hwt
      have r2 := hrow.cell (j := 2) rfl
      have r2d : wr.drew.cell? ⟨g, 2, none⟩ = some (.int .u32 (S.width : Int)) := r2
      obtain ⟨kk, hkk⟩ : ∃ kk, kk = B - 1 - k := ⟨_, rfl⟩
      have hw0 : IntKind.u32.wrap ((S.width : Int) / 2) = ((S.width / 2 : Nat) : Int) := by
        have := hok.most
        rw [IntKind.wrap_u32]; omega
      have hw1 : IntKind.i64.wrap ((B : Int) - 1) = (B : Int) - 1 := by rw [IntKind.wrap_i64]; omega
      have hw2 : IntKind.i64.wrap ((B : Int) - 1 - (k : Int)) = (kk : Int) := by rw [IntKind.wrap_i64]; omega
      have hw3 : IntKind.i64.wrap (n / 2 ^ kk) = n / 2 ^ kk := by
        have := div_in n kk hn
        rw [IntKind.wrap_i64]; omega
      have HPUT := Lib.hid (fun W (hW : Wt W g vb' S) => put_at g vb' S (S.width / 2) (bits .and .i64 (n / 2 ^ kk) 1) W hW hok (even_ok hok) (by have := HL.out; have := HB.out; omega))
      rw [bit_ne n kk, show ((S.width / 2 : Nat) : Int) = (S.width : Int) / 2 from Int.natCast_ediv _ _] at HPUT
      have HEV := Lib.hid (show evenS (putS S (S.width / 2) (bitAt n kk)) n kk = evenS s n B by
        rw [show B - k = kk + 1 by omega] at hev
        exact hev)
      have HMIN := Lib.hid (show min kk 64 = kk by omega)
      have HK1 := Lib.hid (show B - (k + 1) = kk by omega)
      have HNX := Lib.hid (show Okc (putS S (S.width / 2) (bitAt n kk)) ∧ (putS S (S.width / 2) (bitAt n kk)).out.length ≤ s.out.length + (k + 1) from ⟨putS_ok hok (even_ok hok), by have := putS_len S (S.width / 2) (bitAt n kk); omega⟩)
      generalize putS S (S.width / 2) (bitAt n kk) = S1 at *
      clear hok hlen hev hwn hrow HBG HIE hkk
      go_wp2
      refine wp_region_still_tail 13 (by kernel_rfl) (by kernel_rfl) ?_
      change wpStill _ _ wr.drew (fun a' => wpList _ _ _ _ a' wr.drew) _ _
      generalize hW4 : wr.drew = W4 at *
      simp only [List.take_succ_cons, List.take_zero, List.drop_succ_cons, List.drop_zero]
      repeat still_step
      refine wpStill_nil ?_
      go_wp2_with fail
      rw [HMIN.out]
      refine (HPUT.out W4 (by rw [← hW4]; exact HH.out.2.2.2.1)).mono ?_
      rintro e w2 ⟨rfl, vb2, ht2, hn2⟩
      have HT2 := Lib.hid ht2
      have HN2 := Lib.hid (HH.out.2.2.2.2.trans (show Wn [g] wr vb' w2 vb2 by rw [← hW4] at hn2; exact ⟨hn2.os, hn2.tape, hn2.output, hn2.size, hn2.block, hn2.row⟩))
      clear ht2 hn2 hW4 r2 r2d
      go_wp2
      go_roundw
      case rel => exact ⟨k + 1, S1, vb2, by omega, by go_num, HNX.out.1, HNX.out.2, by rw [HK1.out]; exact HEV.out, HT2.out, HN2.out⟩
      case measure => simp only [intOf]; omega
    · obtain rfl : k = B := by omega
      clear hok hlen hev hwt hwn
      go_wp2
      refine bodyPost_end (results_none rfl _ _ _) rfl ?_
      obtain ⟨h1, h2, h3, h4, h5⟩ := HH.out
      rw [Nat.sub_self] at h3
      rw [← h3]
      exact ⟨rfl, vb', h4, h5⟩
end Go.Proofs.Ytibofgokdjbomaa

/-
  coder's Writer's Tree over this program.
-/
namespace Go.Proofs.Ytibofgokdjbomaa
set_option maxRecDepth 1000000
open Go.RowKit

set_option maxHeartbeats 400000 in
theorem isTree_yes (A : Option Addr) (n c B : Nat) (h : B ≤ 16) (hn : 2 ^ B ≤ n) (w : World) : Calls Try.prog 61 #[.slice A n c, .int .i64 (B : Int)] w (SameW (.bool true) w) := by
  have h1 : decide ((B : Int) ≤ 16) = true := by simp; omega
  have h0 : decide (0 ≤ (B : Int)) = true := by simp
  have hmin : min B 64 = B := by omega
  have hp : (2 : Nat) ^ B ≤ 2 ^ 16 := Nat.pow_le_pow_right (by decide) h
  have hw := wrap_pow B (by omega)
  obtain ⟨m, hm⟩ : ∃ m, m = (2 : Nat) ^ B := ⟨_, rfl⟩
  rw [← hm] at hw hn
  have h2 : decide ((m : Int) ≤ (n : Int)) = true := by simp; omega
  have h3 : decide (m ≤ n) = true := by simp; omega
  clear hm hp
  go_enter Try.func61, Try.ntmps61
  go_wp2
  go_ret
  exact ⟨rfl, rfl⟩
set_option maxHeartbeats 400000 in
theorem isTree_few (A : Option Addr) (n c B : Nat) (h : B ≤ 16) (hn : n < 2 ^ B) (w : World) : Calls Try.prog 61 #[.slice A n c, .int .i64 (B : Int)] w (SameW (.bool false) w) := by
  have h1 : decide ((B : Int) ≤ 16) = true := by simp; omega
  have h0 : decide (0 ≤ (B : Int)) = true := by simp
  have hmin : min B 64 = B := by omega
  have hp : (2 : Nat) ^ B ≤ 2 ^ 16 := Nat.pow_le_pow_right (by decide) h
  have hw := wrap_pow B (by omega)
  obtain ⟨m, hm⟩ : ∃ m, m = (2 : Nat) ^ B := ⟨_, rfl⟩
  rw [← hm] at hw hn
  have h2 : decide ((m : Int) ≤ (n : Int)) = false := by simp; omega
  have h3 : decide (m ≤ n) = false := by simp; omega
  clear hm hp
  go_enter Try.func61, Try.ntmps61
  go_wp2
  go_ret
  exact ⟨rfl, rfl⟩
set_option maxHeartbeats 400000 in
theorem isTree_no (A : Option Addr) (n c : Nat) (q : Int) (h : q < 0 ∨ 16 < q) (w : World) : Calls Try.prog 61 #[.slice A n c, .int .i64 q] w (SameW (.bool false) w) := by
  by_cases h0 : q < 0
  · have h1 : decide (0 ≤ q) = false := by simp; omega
    go_enter Try.func61, Try.ntmps61
    go_wp2
    go_ret
    exact ⟨rfl, rfl⟩
  · have h1 : decide (0 ≤ q) = true := by simp; omega
    have h2 : decide (q ≤ 16) = false := by simp; omega
    go_enter Try.func61, Try.ntmps61
    go_wp2
    go_ret
    exact ⟨rfl, rfl⟩

set_option maxHeartbeats 4000000 in
theorem tree_at (g : Nat) (vb : Option Nat) (s : Cst) (gc : Nat) (t : TypeId) (l : List Nat) (m c : Nat) (n : Int) (B : Nat) (w : World) (h : Wt w g vb s) (hs : Okc s) (hl : s.out.length ≤ 800000000) (hr : Row w gc t (chV l)) (hm : l.length = m) (hok : Okl l) (hne : gc ≠ g ∧ vb ≠ some gc)
    (hB : B ≤ 16) (hBm : 2 ^ B ≤ m) (hm2 : m ≤ 131072) (hn : -9223372036854775808 ≤ n ∧ n ≤ 9223372036854775807) :
    Calls Try.prog 30 #[.pointer (some ⟨g, 0, none⟩), .slice (some ⟨gc, 0, none⟩) m c, .int .i64 n, .int .i64 (B : Int)] w (BOut g vb gc t (treeS s l n B 1) w) := by
  have HIT := Lib.hid (fun W => isTree_yes (some ⟨gc, 0, none⟩) m c B hB hBm W)
  have HW := Lib.hid h
  have HR := Lib.hid hr
  have HS := Lib.hid hs
  have HL := Lib.hid hl
  have HN := Lib.hid hne
  have HOK := Lib.hid hok
  have HM := Lib.hid hm
  have HBM := Lib.hid (show (1 + 1) * 2 ^ B ≤ 2 * m by omega)
  clear h hr hs hl hne hok hm hBm
  go_enter Try.func30, Try.ntmps30
  go_wp2_with fail
  refine (HIT.out _).mono ?_
  rintro e w1 ⟨rfl, hw1⟩
  obtain rfl := hw1.symm
  go_wp2
  go_loopw [8, 16] (fun pl i W => ∃ (k p : Nat) (S : Cst) (L : List Nat) (vb' : Option Nat), k ≤ B ∧ i = .int .i64 k ∧ pl = .int .i64 p ∧ p ≤ 300000 ∧ (Okc S ∧ Okl L ∧ L.length = m ∧ (p + 1) * 2 ^ (B - k) ≤ 2 * m ∧ S.out.length ≤ s.out.length + k) ∧ treeS S L n (B - k) p = treeS s l n B 1 ∧ (Wt W g vb' S ∧ Row W gc t (chV L) ∧ vb' ≠ some gc ∧ Wn [g, gc] w vb W vb')) (fun _ i _ => B - (intOf i).toNat)
  case atStart => exact ⟨0, 1, s, l, vb, Nat.zero_le _, rfl, rfl, by decide, ⟨HS.out, HOK.out, HM.out, HBM.out, Nat.le_refl _⟩, rfl, HW.out, HR.out, HN.out.2, Wn.refl _ _ _⟩
  case round =>
    obtain ⟨k, p, S, L, vb', hk, rfl, rfl, hp2, ho, htr, hh⟩ := hrel
    have HO := Lib.hid ho
    have HH := Lib.hid hh
    by_cases hlt : k < B
    · have hd : decide ((k : Int) < (B : Int)) = true := by simp; omega
      obtain ⟨kk, hkk⟩ : ∃ kk, kk = B - 1 - k := ⟨_, rfl⟩
      have hBk : B - k = kk + 1 := by omega
      have hpm := HO.out.2.2.2.1
      rw [hBk] at hpm
      have hpl : p < m := tree_lt hpm
      have hpi : (p : Int) < (m : Int) := by omega
      have hw1 : IntKind.i64.wrap ((B : Int) - 1) = (B : Int) - 1 := by rw [IntKind.wrap_i64]; omega
      have hw2 : IntKind.i64.wrap ((B : Int) - 1 - (k : Int)) = (kk : Int) := by rw [IntKind.wrap_i64]; omega
      have hw3 : IntKind.i64.wrap (n / 2 ^ kk) = n / 2 ^ kk := by
        have := div_in n kk hn
        rw [IntKind.wrap_i64]; omega
      have hmin : min kk 64 = kk := by omega
      have hand := bit_val n kk
      have hor := or_bit p (bitAt n kk) (by omega)
      have HBIT := Lib.hid (fun W (hW : Wt W g vb' S) (hR : Row W gc t (chV L)) => bit_at g vb' S gc p t L ((bitAt n kk).toNat : Int) W hW HO.out.1 (by have := HL.out; have := HO.out.2.2.2.2; omega) hR (by rw [HO.out.2.2.1]; exact hpl) HO.out.2.1 ⟨HN.out.1, HH.out.2.2.1⟩)
      rw [bit_dec] at HBIT
      have htr : treeS (bitS S L p (bitAt n kk)).1 (bitS S L p (bitAt n kk)).2 n kk (2 * p + (bitAt n kk).toNat) = treeS s l n B 1 := by
        rw [hBk] at htr
        exact htr
      have hok2 := bitS_ok (bitAt n kk) HO.out.1 HO.out.2.1 (show p < L.length by rw [HO.out.2.2.1]; exact hpl)
      have hlen2 := bitS_len S L p (bitAt n kk)
      have hout2 := putS_len S (S.width / 2048 * L.getD p 0) (bitAt n kk)
      have HNX := Lib.hid (show Okc (bitS S L p (bitAt n kk)).1 ∧ Okl (bitS S L p (bitAt n kk)).2 ∧ (bitS S L p (bitAt n kk)).2.length = m ∧ (2 * p + (bitAt n kk).toNat + 1) * 2 ^ kk ≤ 2 * m ∧ (bitS S L p (bitAt n kk)).1.out.length ≤ s.out.length + (k + 1) from
        ⟨hok2.1, hok2.2, hlen2.trans HO.out.2.2.1, tree_next _ hpm, by have := HO.out.2.2.2.2; show (putS S _ _).out.length ≤ _; omega⟩)
      generalize bitS S L p (bitAt n kk) = SL at *
      have hb1 := bit_le (bitAt n kk)
      generalize (bitAt n kk).toNat = bv at *
      have HTR := Lib.hid htr
      have HK1 := Lib.hid (show B - (k + 1) = kk by omega)
      clear ho hh htr hkk hBk hpm hok2 hlen2 hout2
      go_wp2_with fail
      refine (HBIT.out wr HH.out.1 HH.out.2.1).mono ?_
      rintro e w2 ⟨rfl, vb2, ht2, hr2, hn2⟩
      have HE2 := Lib.hid (And.intro ht2 (And.intro hr2 hn2))
      have HV2 := Lib.hid (show vb2 ≠ some gc by
        rcases hn2.row with e | ⟨b, e, hb⟩
        · rw [e]; exact HH.out.2.2.1
        · rw [e]; intro e2; cases e2; have := HH.out.2.1.lt; omega)
      clear ht2 hr2 hn2
      go_wp2
      go_roundw
      case rel => exact ⟨k + 1, 2 * p + bv, SL.1, SL.2, vb2, by omega, by go_num, rfl, by omega, by rw [HK1.out]; exact HNX.out, by rw [HK1.out]; exact HTR.out, HE2.out.1, HE2.out.2.1, HV2.out, HH.out.2.2.2.trans HE2.out.2.2⟩
      case measure => simp only [intOf]; omega
    · obtain rfl : k = B := by omega
      have HTR := Lib.hid htr
      clear ho hh htr
      go_wp2
      refine bodyPost_end (results_none rfl _ _ _) rfl ?_
      have h3 := HTR.out
      rw [Nat.sub_self] at h3
      rw [← h3]
      exact ⟨rfl, vb', HH.out.1, HH.out.2.1, HH.out.2.2.2⟩
end Go.Proofs.Ytibofgokdjbomaa

/-
  slices.Clone of bytes, coder's Begin, Chances, and a Writer's End over this program.
-/
namespace Go.Proofs.Ytibofgokdjbomaa
set_option maxRecDepth 1000000
open Go.RowKit

set_option maxHeartbeats 1000000 in
theorem clone_bytes (v : Value) (b : List UInt8) (w : World) (hv : Rd w v (bytesV b)) (hl : b.length ≤ 1000000000) :
    Calls Try.prog 63 #[v] w (OutO w b) := by
  have hv0 := hv
  obtain ⟨A, c, rfl, h1, h2, h3⟩ := hv
  cases A with
  | none =>
    have hl0 : b = [] := by
      rcases b with _ | ⟨x, l⟩
      · rfl
      · obtain ⟨ad, h, _⟩ := h3 (by simp [bytesV]); cases h
    subst hl0
    have hnil := fun W => Lib.run_eql_slice_nil (P := Try.prog) W 22 5 none 0 c 0 0 Try.underlying22
    show Calls Try.prog 63 #[.slice none 0 c] w _
    clear h1 h2 h3 hv0
    go_enter Try.func63, Try.ntmps63
    go_wp2
    go_ret
    exact ⟨_, rfl, ⟨rfl, .inl ⟨rfl, rfl⟩⟩, grown_refl _ _⟩
  | some ad =>
    have hnil := fun W => Lib.run_eql_slice_nil (P := Try.prog) W 22 5 (some ad) (bytesV b).length c 0 0 Try.underlying22
    clear h3 h1 h2
    have hn : (bytesV b).length = b.length := bytesV_len b
    generalize (bytesV b).length = n at *
    have HN := Lib.hid hn
    clear hn
    go_enter Try.func63, Try.ntmps63
    go_wp2_with (at_builtin; refine wpList_append_bytes _ rfl _ _ rfl w.heap.size _ 0 [] rfl ?_ _ b rfl ?_ ?_ ?_ ?_)
    · exact World.ownsRow_made _ _ _ (Nat.le_refl _) (Nat.zero_le _) rfl
    · exact hv0.grown0 (grown_alloc (grown_refl _ _) _)
    · omega
    · simp
    · intro v' w' ho hg hat
      have HO := Lib.hid ho
      have HG := Lib.hid hg
      clear ho hg hat
      go_wp2
      go_ret
      have ho := HO.out
      try simp only [Nat.zero_add, List.nil_append] at ho
      refine ⟨_, rfl, ho, grown_new (grown_alloc (grown_refl _ _) _) HG.out ?_⟩
      intro b hb
      simp [Value.ownBlock] at hb
      omega

/-- What Begin answers. -/
def BegOut (w : World) (e : Ending) (w' : World) : Prop := ∃ g, e = .returned (.pointer (some ⟨g, 0, none⟩)) ∧ Wt w' g none beginS ∧ w.heap.size ≤ g ∧ w.grownBy w' none
set_option maxHeartbeats 400000 in
theorem begin_any (w : World) : Calls Try.prog 22 #[] w (BegOut w) := by
  go_enter Try.func22, Try.ntmps22
  go_wp2
  go_ret
  exact ⟨w.heap.size, rfl, ⟨_, Row.new w _ _, ⟨rfl, .inl ⟨rfl, rfl⟩⟩, rfl, by simp⟩, Nat.le_refl _, grown_alloc (grown_refl _ _) _⟩

/-- What Chances answers. -/
def ChOut (w : World) (n : Nat) (e : Ending) (w' : World) : Prop := ∃ g t, e = .returned (.slice (some ⟨g, 0, none⟩) n n) ∧ Row w' g t (chV (List.replicate n 1024)) ∧ w.heap.size ≤ g ∧ w.grownBy w' none
theorem okl_first (n : Nat) : Okl (List.replicate n 1024) := by
  intro c hc
  rw [List.eq_of_mem_replicate hc]
  exact ⟨by decide, by decide⟩
theorem infoCh : ∃ i, Try.prog.info? 62 = some i ∧ i.zero = some (.agg #[.int .i16 0]) ∧ i.size = 1 ∧ i.bytes ≤ 8 := by
  have h : (Try.prog.info? 62).map (fun i => (i.zero, i.size, decide (i.bytes ≤ 8))) = some (some (.agg #[.int .i16 0]), 1, true) := by kernel_rfl
  obtain ⟨i, hi, he⟩ := Option.map_eq_some_iff.1 h
  simp only [Prod.mk.injEq, decide_eq_true_eq] at he
  exact ⟨i, hi, he.1, he.2.1, he.2.2⟩
theorem run_make_ch (w : World) (n : Nat) (hc : n ≤ 131072) : (Instr.makeSlice 49 (.int .i64 (n : Int)) (.int .i64 (n : Int))).run Try.prog w = .ok (.slice (some ⟨w.heap.size, 0, none⟩) n n) (w.alloc (.cells (chV (List.replicate n 1024)).toArray 62)) := by
  obtain ⟨i, hi, hz, hs1, hb⟩ := infoCh
  have hb2 : i.bytes * n ≤ 8 * n := Nat.mul_le_mul_right _ hb
  have hr := run_make (P := Try.prog) w 49 62 i _ Try.underlying49 hi hz .i64 .i64 n n (by omega) (by omega) (by rw [← Int.natCast_mul]; omega) (by omega)
  simp only [Int.toNat_natCast, hs1, Nat.mul_one] at hr
  have e : madeCells (Value.agg #[.int .i16 0]).cells n = (chV (List.replicate n 1024)).toArray := by
    have h1 := toList_madeCells_one (.int .i16 0) n
    rw [show (Value.agg #[.int IntKind.i16 0]).cells = #[.int .i16 0] from rfl]
    apply Array.ext'
    rw [h1]
    simp [chV]
  rw [e] at hr
  exact hr
theorem wpList_runs {P : Program} {ops : Array Oper} {rest : List Oper} {o : Oper} {a : Act} {w w' : World} {Q : Exit → Act → World → Prop} {v : Value} (hgd : o.guard = none) (hr : (execOp a.eval o).run P w = .ok (.value v) w') (h : wpList P ops Q rest (a.put o.dst v) w') : wpList P ops Q (o :: rest) a w :=
  wpList_plain hgd fun _ hK => by
    unfold Oper.wp
    rw [hr, Oper.upon_value]
    exact hK _ _ h
theorem ex_max0 {o : Oper} {a : Act} {w : World} {x : Operand} {q : Int} (h : o.op = .call { callee := .builtin .max, args := #[x, .const (.int .i64 0)], argTypes := #[3, 3] }) (hx : a.eval x = .int .i64 q) : (execOp a.eval o).run Try.prog w = .ok (.value (.int .i64 (max q 0))) w := by
  have hc : a.eval (.const (.int .i64 0)) = .int .i64 0 := rfl
  unfold execOp
  simp only [h, resolve, invoke, builtin, List.map_toArray, List.map_cons, List.map_nil, hx, hc]
  simp [go_sem]
  rw [Int.max_def]
  split <;> split <;> first | rfl | omega
theorem ex_minc {o : Oper} {a : Act} {w : World} {x : Operand} {q : Int} (d : Int) (h : o.op = .call { callee := .builtin .min, args := #[x, .const (.int .i64 d)], argTypes := #[3, 3] }) (hx : a.eval x = .int .i64 q) : (execOp a.eval o).run Try.prog w = .ok (.value (.int .i64 (min q d))) w := by
  have hc : a.eval (.const (.int .i64 d)) = .int .i64 d := rfl
  unfold execOp
  simp only [h, resolve, invoke, builtin, List.map_toArray, List.map_cons, List.map_nil, hx, hc]
  simp [go_sem]
  rw [Int.min_def]
  split <;> split <;> first | rfl | omega
set_option maxHeartbeats 400000 in
theorem chances_any (q : Int) (n : Nat) (hq : min (max q 0) 131072 = (n : Int)) (w : World) : Calls Try.prog 23 #[.int .i64 q] w (ChOut w n) := by
  have HQ := Lib.hid hq
  have HM := Lib.hid (run_make_ch w n (by omega))
  have HR := Lib.hid (Row.new w 62 (chV (List.replicate n 1024)))
  obtain ⟨C, hC⟩ : ∃ C, C = chV (List.replicate n 1024) := ⟨_, rfl⟩
  rw [← hC] at HM HR
  have HC := Lib.hid hC
  clear hC hq
  go_enter Try.func23, Try.ntmps23
  go_wp2
  all_goals rename_i hcase
  · obtain rfl : n = 0 := by have := HQ.out; omega
    have hm : (Instr.makeSlice 49 (.int .i64 0) (.int .i64 0)).run Try.prog w = _ := HM.out
    rw [hm]
    clear hm
    go_wp2
    go_ret
    exact ⟨_, _, rfl, by rw [← HC.out]; exact HR.out, Nat.le_refl _, grown_alloc (grown_refl _ _) _⟩
  · obtain rfl : n = 131072 := by have := HQ.out; omega
    have hm : (Instr.makeSlice 49 (.int .i64 131072) (.int .i64 131072)).run Try.prog w = _ := HM.out
    rw [hm]
    clear hm
    go_wp2
    go_ret
    exact ⟨_, _, rfl, by rw [← HC.out]; exact HR.out, Nat.le_refl _, grown_alloc (grown_refl _ _) _⟩
  · obtain rfl : q = (n : Int) := by have := HQ.out; omega
    rw [HM.out]
    go_wp2
    go_ret
    exact ⟨_, _, rfl, by rw [← HC.out]; exact HR.out, Nat.le_refl _, grown_alloc (grown_refl _ _) _⟩

/-- So many bytes told. -/
def tellN : Nat → Cst → Cst
  | 0, s => s
  | k + 1, s => tellS (tellN k s)
theorem tellN_width : ∀ (k : Nat) (s : Cst), (tellN k s).width = s.width
  | 0, _ => rfl
  | k + 1, s => tellN_width k s
theorem tellN_low : ∀ (k : Nat) (s : Cst), s.low < 4294967296 → (tellN k s).low < 4294967296
  | 0, _, h => h
  | k + 1, s, h => by
    show (tellN k s).low % 16777216 * 256 < _
    omega
theorem tellN_len : ∀ (k : Nat) (s : Cst), (tellN k s).out.length = s.out.length + k
  | 0, _ => rfl
  | k + 1, s => by
    show ((tellN k s).out ++ [_]).length = _
    rw [List.length_append, tellN_len k s]
    rfl
theorem eT (n : Nat) (_ : n < 4294967296) : n % 16777216 * 256 / 16777216 = n / 65536 % 256 := by omega
theorem eU (n : Nat) (_ : n < 4294967296) : n % 16777216 * 256 / 65536 % 256 = n / 256 % 256 := by omega
theorem eV (n : Nat) (_ : n < 4294967296) : n % 16777216 * 256 / 256 % 256 = n % 256 := by omega
theorem eL (n : Nat) : n % 16777216 * 256 < 4294967296 := by omega
theorem tells_end (s : Cst) (h : s.low < 4294967296) : (tellN 4 s).out = endS s ∧ (tellN 4 s).low = 0 := by
  have e1 := eT _ h
  have e2 : s.low % 16777216 * 256 % 16777216 * 256 / 16777216 = s.low / 256 % 256 := (eT _ (eL _)).trans (eU _ h)
  have e3 : s.low % 16777216 * 256 % 16777216 * 256 % 16777216 * 256 / 16777216 = s.low % 256 := (eT _ (eL _)).trans ((eU _ (eL _)).trans (eV _ h))
  refine ⟨?_, ?_⟩
  · simp only [tellN, tellS, endS, lowB, e1, e2, e3, List.append_assoc, List.cons_append, List.nil_append]
  · simp only [tellN, tellS]
    omega
theorem endS_len (s : Cst) : (endS s).length = s.out.length + 4 := by simp [endS, lowB]

/-- What End answers. -/
def EOut (g : Nat) (vb : Option Nat) (b : List UInt8) (w : World) (e : Ending) (w' : World) : Prop :=
  ∃ u, e = .returned u ∧ w'.ownsRow w.heap.size 5 1 u b.length (bytesV b) ∧ ∃ vb', Wt w' g vb' ⟨b, 0, 0⟩ ∧ Wn [g] w vb w' vb'
set_option maxHeartbeats 1000000 in
theorem end_done (g : Nat) (vb : Option Nat) (s : Cst) (w : World) (h : Wt w g vb s) (hs : s.width = 0) (hl : s.out.length ≤ 900000000) :
    Calls Try.prog 32 #[.pointer (some ⟨g, 0, none⟩)] w (OutO w s.out) := by
  have HBG := Lib.hid (begun_at g vb s w h)
  rw [hs] at HBG
  obtain ⟨v, hrow, hown, hvb, hne⟩ := h
  have r0 := hrow.cell (j := 0) rfl
  obtain ⟨A, c, rfl⟩ := own_form hown
  have HC := Lib.hid (clone_bytes _ _ w (Rd.of_own hown) (by omega))
  clear hrow hown hvb hne hs hl
  go_enter Try.func32, Try.ntmps32
  go_wp2_with fail
  refine HBG.out.mono ?_
  rintro e w1 ⟨rfl, hw1⟩
  obtain rfl := hw1.symm
  go_wp2_with fail
  refine HC.out.mono ?_
  rintro e w1 ⟨u, rfl, ho, hg⟩
  have HO := Lib.hid (And.intro ho hg)
  clear ho hg
  go_wp2
  go_ret
  exact ⟨_, rfl, HO.out.1, HO.out.2⟩
set_option maxHeartbeats 4000000 in
theorem end_at (g : Nat) (vb : Option Nat) (s : Cst) (w : World) (h : Wt w g vb s) (hs : Okc s) (hl : s.out.length ≤ 900000000) :
    Calls Try.prog 32 #[.pointer (some ⟨g, 0, none⟩)] w (EOut g vb (endS s) w) := by
  have HBG := Lib.hid (begun_at g vb s w h)
  rw [show decide (0 < s.width) = true by have := hs.wide; simp; omega] at HBG
  have HW := Lib.hid h
  have HS := Lib.hid hs
  have HL := Lib.hid hl
  clear h hs hl
  go_enter Try.func32, Try.ntmps32
  go_wp2_with fail
  refine HBG.out.mono ?_
  rintro e w1 ⟨rfl, hw1⟩
  obtain rfl := hw1.symm
  clear HBG
  go_wp2
  go_loopw [7] (fun i W => ∃ (k : Nat) (vb' : Option Nat), k ≤ 4 ∧ i = .int .i64 k ∧ Wt W g vb' (tellN k s) ∧ Wn [g] w vb W vb') (fun i _ => 4 - (intOf i).toNat)
  case atStart => exact ⟨0, vb, Nat.zero_le _, rfl, HW.out, Wn.refl _ _ _⟩
  case round =>
    obtain ⟨k, vb', hk, rfl, hwt, hwn⟩ := hrel
    by_cases hlt : k < 4
    · have hd : decide ((k : Int) < 4) = true := by simp; omega
      have HN := Lib.hid hwn
      have HT := Lib.hid (tell_at g vb' (tellN k s) wr hwt (tellN_low k s HS.out.low) (by rw [tellN_len]; have := HL.out; omega))
      clear hwt hwn
      go_wp2_with fail
      refine HT.out.mono ?_
      rintro e w2 ⟨rfl, vb2, ht2, hn2⟩
      have HE := Lib.hid (And.intro ht2 (HN.out.trans hn2))
      clear ht2 hn2 HT
      go_wp2
      go_roundw
      case rel => exact ⟨k + 1, vb2, by omega, by go_num, HE.out.1, HE.out.2⟩
      case measure => simp only [intOf]; omega
    · obtain rfl : k = 4 := by omega
      have hwt' : Wt wr g vb' ⟨endS s, 0, s.width⟩ := by
        have h1 := tells_end s HS.out.low
        have h2 := tellN_width 4 s
        rw [← h1.1, ← h2]
        have h3 : tellN 4 s = ⟨(tellN 4 s).out, (tellN 4 s).low, (tellN 4 s).width⟩ := rfl
        rw [h1.2] at h3
        rw [← h3]
        exact hwt
      have HT := Lib.hid hwt'
      have HN := Lib.hid hwn
      obtain ⟨v, hrow, hown, hvb, hne⟩ := hwt'
      have r2 := hrow.cell (j := 2) rfl
      have f2 := hrow.frozen 2
      obtain ⟨A, c, rfl⟩ := own_form hown
      have R1 := hrow.set 2 (.int .u32 0)
      have G1 := grown_set wr g 2 (.int .u32 0)
      have T1 := Lib.hid (HT.out.set (low := 0) (width := 0) _ R1 hrow G1)
      have N1 := Lib.hid (HN.out.grown G1 (fun b e => by cases e; exact .inl (List.mem_singleton.2 rfl)))
      have c0 := R1.cell (j := 0) rfl
      have HCL := Lib.hid (clone_bytes _ (endS s) _ (Rd.of_own (own_at2 hown (fun b hb => G1.block b (own_block_lt hown hb) (fun e => hne (by rw [← hvb, hb, e]))))) (by rw [endS_len]; have := HL.out; omega))
      clear hwt hwn hrow hown hvb hne R1 G1 hk hlt
      generalize hW1 : wr.setCell ⟨g, 2, none⟩ (.int .u32 0) = W1 at *
      go_wp2_with fail
      refine HCL.out.mono ?_
      rintro e w3 ⟨u, rfl, ho, hg⟩
      have HO := Lib.hid (And.intro ho hg)
      clear ho hg
      go_wp2
      go_ret
      refine ⟨_, rfl, ?_, vb', T1.out.grown0 HO.out.2, N1.out.grown0 HO.out.2⟩
      have h1 := HO.out.1
      refine ⟨h1.1, ?_⟩
      rcases h1.2 with h2 | ⟨b, cap, cur, h3, h4, h5⟩
      · exact .inl h2
      · exact .inr ⟨b, cap, cur, h3, Nat.le_trans N1.out.size h4, h5⟩
end Go.Proofs.Ytibofgokdjbomaa
