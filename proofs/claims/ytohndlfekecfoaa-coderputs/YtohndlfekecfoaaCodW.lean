/-
  coder's Writer over this program: what its calls turn; begun, tell, carry, widen, put.
-/
import Derived.Test.YtohndlfekecfoaaCod
import Derived.Test.YtohndlfekecfoaaAppBytes
import Derived.Test.YtohndlfekecfoaaIntOps
import Derived.Test.YtohndlfekecfoaaOwnKeep
import Derived.StillTailTactics
import Derived.BigQuiet
import Derived.WalkMore
import Derived.ScopeJumps
namespace Go.Proofs.Ytohndlfekecfoaa
set_option maxRecDepth 1000000
open Go.RowKit

/-- From W0 to W nothing that lay there is turned but the blocks S and the row v0 of what was told; v1 is that row then. -/
structure Wn (S : List Nat) (W0 : World) (v0 : Option Nat) (W : World) (v1 : Option Nat) : Prop where
  os : W.os = W0.os
  tape : W.tape = W0.tape
  output : W.output = W0.output
  size : W0.heap.size ≤ W.heap.size
  block : ∀ k, k < W0.heap.size → k ∉ S → some k ≠ v0 → W.heap[k]? = W0.heap[k]?
  row : v1 = v0 ∨ ∃ b, v1 = some b ∧ W0.heap.size ≤ b
theorem Wn.refl (S : List Nat) (W : World) (v : Option Nat) : Wn S W v W v := ⟨rfl, rfl, rfl, Nat.le_refl _, fun _ _ _ _ => rfl, .inl rfl⟩
theorem Wn.trans {S : List Nat} {W0 W1 W2 : World} {v0 v1 v2 : Option Nat} (h : Wn S W0 v0 W1 v1) (k : Wn S W1 v1 W2 v2) : Wn S W0 v0 W2 v2 := by
  refine ⟨k.os.trans h.os, k.tape.trans h.tape, k.output.trans h.output, Nat.le_trans h.size k.size, fun i hi hg hv => ?_, ?_⟩
  · refine (k.block i (Nat.lt_of_lt_of_le hi h.size) hg ?_).trans (h.block i hi hg hv)
    rcases h.row with e | ⟨b, e, hb⟩
    · rw [e]; exact hv
    · rw [e]; intro e2; cases e2; omega
  · rcases k.row with e | ⟨b, e, hb⟩
    · rw [e]; exact h.row
    · exact .inr ⟨b, e, Nat.le_trans h.size hb⟩
theorem Wn.grown {S : List Nat} {W0 W1 W2 : World} {v0 v1 : Option Nat} {r : Option Nat} (h : Wn S W0 v0 W1 v1) (k : W1.grownBy W2 r) (hr : ∀ b, r = some b → b ∈ S ∨ v1 = some b) : Wn S W0 v0 W2 v1 := by
  refine h.trans ⟨k.os, k.tape, k.output, k.size, fun i hi hg hv => k.block i hi ?_, .inl rfl⟩
  rintro rfl
  rcases hr i rfl with h1 | h1
  · exact hg h1
  · exact hv h1.symm
theorem Wn.grown0 {S : List Nat} {W0 W1 W2 : World} {v0 v1 : Option Nat} (h : Wn S W0 v0 W1 v1) (k : W1.grownBy W2 none) : Wn S W0 v0 W2 v1 := h.grown k (fun b e => by cases e)
theorem Wn.mono {S T : List Nat} {W0 W1 : World} {v0 v1 : Option Nat} (h : Wn S W0 v0 W1 v1) (hs : ∀ k ∈ S, k ∈ T) : Wn T W0 v0 W1 v1 :=
  ⟨h.os, h.tape, h.output, h.size, fun i hi hg hv => h.block i hi (fun e => hg (hs i e)) hv, h.row⟩
/-- All that may be turned is new since w. -/
theorem Wn.new {S : List Nat} {w W0 W : World} {v0 v1 : Option Nat} (h : w.grownBy W0 none) (k : Wn S W0 v0 W v1) (hs : ∀ b ∈ S, w.heap.size ≤ b) (hv : ∀ b, v0 = some b → w.heap.size ≤ b) : w.grownBy W none :=
  ⟨k.os.trans h.os, k.tape.trans h.tape, k.output.trans h.output, Nat.le_trans h.size k.size, fun i hi _ => (k.block i (Nat.lt_of_lt_of_le hi h.size) (fun e => by have := hs i e; omega) (fun e => by have := hv i e.symm; omega)).trans (h.block i hi (by simp))⟩
theorem Row.wn {S : List Nat} {W0 W : World} {b : Nat} {v0 v1 : Option Nat} {t : TypeId} {cs : List Value} (h : Row W0 b t cs) (k : Wn S W0 v0 W v1) (hs : b ∉ S) (hv : some b ≠ v0) : Row W b t cs := (k.block b h.lt hs hv).trans h
theorem Rd.wn {S : List Nat} {W0 W : World} {v0 v1 : Option Nat} {v : Value} {xs : List Value} (h : Rd W0 v xs) (k : Wn S W0 v0 W v1) (hg : ∀ b, v.ownBlock = some b → b ∉ S ∧ some b ≠ v0) : Rd W v xs :=
  h.keep fun b hb hlt => k.block b hlt (hg b hb).1 (hg b hb).2
theorem own_at2 {w w' : World} {base : Nat} {e : TypeId} {v : Value} {n : Nat} {xs : List Value} (h : w.ownsRow base e 1 v n xs) (hb : ∀ g, v.ownBlock = some g → w'.heap[g]? = w.heap[g]?) : w'.ownsRow base e 1 v n xs := by
  refine ⟨h.1, ?_⟩
  rcases h.2 with h0 | ⟨g, cap, cur, rfl, hbase, hg, hrest⟩
  · exact .inl h0
  · exact .inr ⟨g, cap, cur, rfl, hbase, (hb g rfl).trans hg, hrest⟩

/-- Block g is a writer that keeps s; what was told lies in row vb. -/
def Wt (w : World) (g : Nat) (vb : Option Nat) (s : Cst) : Prop :=
  ∃ v, Row w g 57 [v, .int .u32 (s.low : Int), .int .u32 (s.width : Int)] ∧ w.ownsRow 0 5 1 v s.out.length (bytesV s.out) ∧ v.ownBlock = vb ∧ vb ≠ some g
theorem own_block_lt {w : World} {base : Nat} {e : TypeId} {v : Value} {n : Nat} {xs : List Value} (h : w.ownsRow base e 1 v n xs) {b : Nat} (hb : v.ownBlock = some b) : b < w.heap.size := by
  rcases h.2 with ⟨rfl, _⟩ | ⟨g', cap, cur, rfl, _, hgg, _⟩
  · cases hb
  · cases hb
    exact (Array.getElem?_eq_some_iff.1 hgg).1
theorem Wt.lt {w : World} {g : Nat} {vb : Option Nat} {s : Cst} (h : Wt w g vb s) : g < w.heap.size := by
  obtain ⟨v, hrow, _⟩ := h
  exact hrow.lt
theorem Wt.row_lt {w : World} {g : Nat} {vb : Option Nat} {s : Cst} (h : Wt w g vb s) : ∀ b, vb = some b → b < w.heap.size := by
  obtain ⟨v, hrow, hown, hvb, hne⟩ := h
  rintro b rfl
  exact own_block_lt hown hvb
theorem Wt.keep {w w' : World} {g : Nat} {vb : Option Nat} {s : Cst} (h : Wt w g vb s) (hg : w'.heap[g]? = w.heap[g]?) (hv : ∀ b, vb = some b → w'.heap[b]? = w.heap[b]?) : Wt w' g vb s := by
  obtain ⟨v, hrow, hown, hvb, hne⟩ := h
  exact ⟨v, hg.trans hrow, own_at2 hown (fun b hb => hv b (hvb.symm.trans hb)), hvb, hne⟩
theorem Wt.grown {w w' : World} {g : Nat} {vb : Option Nat} {s : Cst} {r : Option Nat} (h : Wt w g vb s) (hg : w.grownBy w' r) (h1 : some g ≠ r) (h2 : ∀ b, vb = some b → some b ≠ r) : Wt w' g vb s :=
  h.keep (hg.block g h.lt h1) (fun b hb => hg.block b (h.row_lt b hb) (h2 b hb))
theorem Wt.grown0 {w w' : World} {g : Nat} {vb : Option Nat} {s : Cst} (h : Wt w g vb s) (hg : w.grownBy w' none) : Wt w' g vb s := h.grown hg (by simp) (by simp)
/-- Another writer, untouched. -/
theorem Wt.wn {S : List Nat} {W0 W : World} {c : Nat} {v0 v1 vc : Option Nat} {s : Cst} (h : Wt W0 c vc s) (k : Wn S W0 v0 W v1) (h1 : c ∉ S ∧ some c ≠ v0) (h2 : ∀ b, vc = some b → b ∉ S ∧ some b ≠ v0) : Wt W c vc s :=
  h.keep (k.block c h.lt h1.1 h1.2) (fun b hb => k.block b (h.row_lt b hb) (h2 b hb).1 (h2 b hb).2)

section
variable {P : Program} {ops : Array Oper} {Q : Exit → Act → World → Prop} {n : Nat} {eff : List (Nat × Nat)} {w0 : World} {a0 : Act} {tail : List Oper}
/-- An operation that makes memory, in a region that draws its order. -/
theorem Walk.makeC {env : List (Value → World → Prop)} {k : Nat} {o : Oper} {rest : List Oper} {G : Value → World → Prop} (hl : StaysBut eff k G) (ho : ops[k]? = some o) (hdst : o.dst.isSome = true)
    (hs : ∀ a w, Mid2 ops n eff w0 a0 a w → Ahead eff k w0 w → Deps2 ops env.reverse o a w → Wanted ops o a ∧ ∃ v w', (execOp a.eval o).run P w = .ok (.value v) w' ∧ w.grownBy w' (rowAt eff k) ∧ G v w')
    (hc : Walk P ops Q n eff w0 a0 tail (k + 1) rest (G :: env)) : Walk P ops Q n eff w0 a0 tail k (o :: rest) env := by
  refine ⟨G, hl, fun a w hm ha hd => ?_, hc⟩
  obtain ⟨hw, v, w', hr, hg, hG⟩ := hs a w hm ha hd
  unfold wpOp
  rw [ho]
  simp only
  rw [if_pos (show Region.wanted o (yielded ops a.tmps) = true from hw)]
  refine .inl ?_
  unfold Oper.wp
  rw [hr, Oper.upon_value]
  exact ⟨v, rfl, hg, hG, fun h => by rw [h] at hdst; cases hdst⟩
end
theorem GrownX.rowC {S : List Nat} {w w' : World} (h : GrownX S w.drew w') {g : Nat} {t : TypeId} {cs : List Value} (hr : Row w g t cs) (hg : g ∉ S) : Row w' g t cs := (h.block g hr.lt hg).trans hr

section
variable {o : Oper} {a : Act} {w : World}
theorem st_nil {x : Operand} {p : Addr} (h : o.op = .nilCheck x) (hx : Is (.pointer (some p)) (a.eval x) w) : Runs (Is (.pointer (some p))) o a w := by
  have hx' : a.eval x = .pointer (some p) := hx
  refine ⟨_, ?_, rfl⟩
  simp only [execOp, h, hx']
  simp [go_sem]
theorem st_fieldW0 {x : Operand} {g : Nat} (h : o.op = .fieldAddr 57 x 0) (hx : Is (.pointer (some ⟨g, 0, none⟩)) (a.eval x) w) : Runs (Is (.pointer (some ⟨g, 0, none⟩))) o a w := by
  have hx' : a.eval x = .pointer (some ⟨g, 0, none⟩) := hx
  refine ⟨_, ?_, rfl⟩
  simp only [execOp, h, hx']
  kernel_rfl
theorem st_fieldW1 {x : Operand} {g : Nat} (h : o.op = .fieldAddr 57 x 1) (hx : Is (.pointer (some ⟨g, 0, none⟩)) (a.eval x) w) : Runs (Is (.pointer (some ⟨g, 1, none⟩))) o a w := by
  have hx' : a.eval x = .pointer (some ⟨g, 0, none⟩) := hx
  refine ⟨_, ?_, rfl⟩
  simp only [execOp, h, hx']
  kernel_rfl
theorem st_fieldW2 {x : Operand} {g : Nat} (h : o.op = .fieldAddr 57 x 2) (hx : Is (.pointer (some ⟨g, 0, none⟩)) (a.eval x) w) : Runs (Is (.pointer (some ⟨g, 2, none⟩))) o a w := by
  have hx' : a.eval x = .pointer (some ⟨g, 0, none⟩) := hx
  refine ⟨_, ?_, rfl⟩
  simp only [execOp, h, hx']
  kernel_rfl
theorem st_shr24 {x : Operand} {n : Nat} (h : o.op = .binOp .shr 55 x (.const (.int .u64 24)) 63) (hx : Is (.int .u32 (n : Int)) (a.eval x) w) (_ : n < 4294967296) : Runs (Is (.int .u32 ((n / 16777216 : Nat) : Int))) o a w := by
  have hx' : a.eval x = .int .u32 (n : Int) := hx
  have hc : a.eval (.const (.int .u64 24)) = .int .u64 24 := rfl
  refine ⟨_, ?_, rfl⟩
  simp only [execOp, h, hx', hc]
  simp [go_sem]
theorem st_conv328 {x : Operand} {n : Nat} (h : o.op = .convert 55 5 x) (hx : Is (.int .u32 (n : Int)) (a.eval x) w) (hn : n < 256) : Runs (Is (.int .u8 (n : Int))) o a w := by
  have hx' : a.eval x = .int .u32 (n : Int) := hx
  have hw : IntKind.u8.wrap (n : Int) = (n : Int) := by rw [IntKind.wrap_u8]; omega
  refine ⟨_, ?_, rfl⟩
  simp only [execOp, h, hx']
  simp [go_sem, hw]
theorem ex_build1C {x : Operand} {u : Value} (h : o.op = .buildSlice 28 1 #[(0, x)]) (hx : a.eval x = u) (h1 : u.oneCell' = true) :
    (execOp a.eval o).run Try.prog w = .ok (.value (.slice (some ⟨w.heap.size, 0, none⟩) 1 1)) (w.alloc (.cells #[u] 5)) := by
  simp only [execOp, h, List.map_toArray, List.map_cons, List.map_nil, hx]
  cases u <;> simp [Value.oneCell'] at h1 <;> simp [go_sem]
theorem ex_appendB {x y : Operand} (ho : o.op = .call { callee := .builtin .append, args := #[x, y], argTypes := #[28, 28] })
    (base : Nat) (v : Value) (n : Nat) (xs : List Value) (hx : a.eval x = v) (hown : w.ownsRow base 5 1 v n xs) (u : Value) (l : List UInt8) (hy : a.eval y = u) (hr : Rd w u (bytesV l)) (hlen : n + l.length ≤ 1000000000000) (hbase : base ≤ w.heap.size)
    {r vb : Option Nat} {H : Nat} (hrow : r = v.ownBlock) (hvb : v.ownBlock = vb) (hsz : H ≤ w.heap.size) :
    ∃ v' w', (execOp a.eval o).run Try.prog w = .ok (.value v') w' ∧ w.grownBy w' r ∧ (w'.ownsRow base 5 1 v' (n + l.length) (xs ++ bytesV l) ∧ (v'.ownBlock = vb ∨ ∃ b, v'.ownBlock = some b ∧ H ≤ b)) := by
  obtain ⟨i, hi, hz, hs1, hb⟩ := infoByte
  obtain ⟨v', w', hrun, h2, h3, h4⟩ := run_append_rd (P := Try.prog) w base 28 o.type 5 i (.int .u8 0) 1 Try.underlying28 hi hz hs1 hb rfl v n xs hown u (bytesV l) hr (bytesV_one _) (by rw [bytesV_len]; omega) (by rw [bytesV_len]; omega) hbase
  rw [bytesV_len] at h2
  refine ⟨v', w', ?_, by rw [hrow]; exact h3, h2, ?_⟩
  · unfold execOp
    simp only [ho, resolve, invoke, builtin, Sem.run_bind, Sem.run_pure, Result.andThen_ok, List.map_toArray, List.map_cons, List.map_nil, hx, hy, hrun]
  · rcases h4 with e | e
    · exact .inl (e.trans hvb)
    · exact .inr ⟨_, e, hsz⟩
end
theorem wpList_storeB {ops : Array Oper} {rest : List Oper} {o : Oper} {a : Act} {w : World} {Q : Exit → Act → World → Prop} (hgd : o.guard = none) (hdst : o.dst = none) (x y : Operand) (ho : o.op = .store 28 x y) (g i : Nat) (t : TypeId) (cs : List Value) (A : Option Addr) (n c : Nat)
    (hv : a.eval x = .pointer (some ⟨g, i, none⟩)) (hy : a.eval y = .slice A n c) (hr : Row w g t cs) (hi : i < cs.length) (h : wpList Try.prog ops Q rest a (w.setCell ⟨g, i, none⟩ (.slice A n c))) : wpList Try.prog ops Q (o :: rest) a w := by
  have hf := hr.frozen i
  have hc := hr.cell (j := i) (u := cs[i]) (List.getElem?_eq_getElem hi)
  refine wpList_plain hgd fun _ hK => ?_
  have hrun : (execOp a.eval o).run Try.prog w = .ok .skip (w.setCell ⟨g, i, none⟩ (.slice A n c)) := by
    simp only [execOp, ho, hv, hy]
    simp [go_sem, hc, hf]
  unfold Oper.wp
  rw [hrun, Oper.upon_skip]
  refine hK _ _ ?_
  rw [hdst]
  exact h

/-- What a call of a writer answers: nothing, and the writer keeps s then. -/
def WOut (g : Nat) (vb : Option Nat) (s : Cst) (w : World) (e : Ending) (w' : World) : Prop := e = .returned (.tuple #[]) ∧ ∃ vb', Wt w' g vb' s ∧ Wn [g] w vb w' vb'

set_option maxHeartbeats 4000000 in
theorem tell_at (g : Nat) (vb : Option Nat) (s : Cst) (w : World) (h : Wt w g vb s) (hs : s.low < 4294967296) (hl : s.out.length ≤ 1000000000) :
    Calls Try.prog 28 #[.pointer (some ⟨g, 0, none⟩)] w (WOut g vb (tellS s) w) := by
  obtain ⟨v, hrow, hown, hvb, hne⟩ := h
  obtain ⟨eff, hdis, hoth, h12, hmem⟩ : ∃ eff : List (Nat × Nat), (∀ i j g, rowAt eff i = some g → rowAt eff j = some g → i = j) ∧ (∀ i, i ≠ 12 → rowAt eff i = none) ∧ rowAt eff 12 = vb ∧ ∀ b, b ∈ eff.map (·.2) → vb = some b := by
    cases vb with
    | none => exact ⟨[], dis_nil, fun _ _ => rfl, rfl, fun b hb => by simp at hb⟩
    | some b => exact ⟨[(12, b)], dis_one _ _, fun i hi => by simp [rowAt]; omega, by simp [rowAt], fun b' hb => by simp at hb; rw [hb]⟩
  have HG := Lib.hid (show g ∉ eff.map (·.2) from fun e => hne (hmem g e))
  have HR := Lib.hid hrow
  have HO := Lib.hid hown
  have HV := Lib.hid (And.intro hvb hne)
  have HS := Lib.hid hs
  have HL := Lib.hid hl
  have HD := Lib.hid hdis
  have HOTH := Lib.hid hoth
  have H12 := Lib.hid h12
  have HM := Lib.hid hmem
  have HB := Lib.hid (show ∀ b, vb = some b → b < w.heap.size from fun b hb => own_block_lt hown (hvb.trans hb))
  clear hrow hown hvb hne hs hl hdis hoth h12 hmem
  go_enter Try.func28, Try.ntmps28
  go_wp2
  refine wp_region_walk3 15 eff HD.out (by kernel_rfl) (by kernel_rfl) (by kernel_rfl) ?_
  simp only [List.take_succ_cons, List.take_zero, List.drop_succ_cons, List.drop_zero]
  refine Walk.val (G := Is (.pointer (some ⟨g, 0, none⟩))) (stays_is _ _) rfl rfl (fun a w hm hd => ⟨wanted_plain rfl, st_move rfl (by rw [hm.outer 0 (by kernel_rfl)]; rfl)⟩) ?_
  refine Walk.val (G := Is (.pointer (some ⟨g, 0, none⟩))) (stays_is _ _) rfl rfl (fun a w hm hd => ⟨wanted_plain rfl, st_move rfl (by rw [hm.outer 0 (by kernel_rfl)]; rfl)⟩) ?_
  refine Walk.val (G := Is (.pointer (some ⟨g, 0, none⟩))) (stays_is _ _) rfl rfl (fun a w hm hd => ⟨wanted_plain rfl, st_nil rfl (hd.at_ 1 rfl rfl rfl rfl)⟩) ?_
  refine Walk.val (G := Is (.pointer (some ⟨g, 0, none⟩))) (stays_is _ _) rfl rfl (fun a w hm hd => ⟨wanted_plain rfl, st_fieldW0 rfl (hd.at_ 2 rfl rfl rfl rfl)⟩) ?_
  refine Walk.val (G := Is v) (stays_is _ _) rfl rfl (fun a w hm hd => ⟨wanted_plain rfl, st_cell rfl (fun _ => by kernel_rfl) (hd.at_ 3 rfl rfl rfl rfl) ((hm.grow.rowC HR.out HG.out).cell (j := 0) rfl)⟩) ?_
  refine Walk.val (G := Is (.pointer (some ⟨g, 0, none⟩))) (stays_is _ _) rfl rfl (fun a w hm hd => ⟨wanted_plain rfl, st_move rfl (by rw [hm.outer 0 (by kernel_rfl)]; rfl)⟩) ?_
  refine Walk.val (G := Is (.pointer (some ⟨g, 0, none⟩))) (stays_is _ _) rfl rfl (fun a w hm hd => ⟨wanted_plain rfl, st_nil rfl (hd.at_ 5 rfl rfl rfl rfl)⟩) ?_
  refine Walk.val (G := Is (.pointer (some ⟨g, 1, none⟩))) (stays_is _ _) rfl rfl (fun a w hm hd => ⟨wanted_plain rfl, st_fieldW1 rfl (hd.at_ 6 rfl rfl rfl rfl)⟩) ?_
  refine Walk.val (G := Is (.int .u32 (s.low : Int))) (stays_is _ _) rfl rfl (fun a w hm hd => ⟨wanted_plain rfl, st_cell rfl (fun _ => by kernel_rfl) (hd.at_ 7 rfl rfl rfl rfl) ((hm.grow.rowC HR.out HG.out).cell (j := 1) rfl)⟩) ?_
  refine Walk.val (G := Is (.int .u32 ((s.low / 16777216 : Nat) : Int))) (stays_is _ _) rfl rfl (fun a w hm hd => ⟨wanted_plain rfl, st_shr24 rfl (hd.at_ 8 rfl rfl rfl rfl) HS.out⟩) ?_
  refine Walk.val (G := Is (.int .u8 ((s.low / 16777216 : Nat) : Int))) (stays_is _ _) rfl rfl (fun a w hm hd => ⟨wanted_plain rfl, st_conv328 rfl (hd.at_ 9 rfl rfl rfl rfl) (by have := HS.out; omega)⟩) ?_
  refine Walk.makeC (G := fun u W => Rd W u (bytesV [UInt8.ofNat (s.low / 16777216)]) ∧ ∀ b, u.ownBlock = some b → w.heap.size ≤ b) (stays_all (fun _ _ _ h hg => ⟨Rd.grown0 h.1 hg, h.2⟩) (fun b hb v w w' h hg => ⟨h.1.grown hg (fun b' hb' e => by
      injection e with e
      have h1 := h.2 b' hb'
      have h2 := HB.out b (HM.out b hb)
      omega), h.2⟩) 11) rfl rfl (fun a w hm _ hd => ⟨wanted_plain rfl, _, _, ex_build1C rfl (hd.at_ 10 rfl rfl rfl rfl) rfl, by rw [HOTH.out 11 (by decide)]; exact grown_alloc (grown_refl _ _) _, by
      refine ⟨?_, fun b hb => ?_⟩
      · have := Rd.one w (Value.int .u8 ((s.low / 16777216 : Nat) : Int)) 5
        rw [show bytesV [UInt8.ofNat (s.low / 16777216)] = [Value.int .u8 ((s.low / 16777216 : Nat) : Int)] by simp [bytesV, byteV]; have := HS.out; omega]
        exact this
      · cases hb
        exact hm.grow.size⟩) ?_
  refine Walk.makeC (G := fun u W => W.ownsRow 0 5 1 u (s.out.length + 1) (bytesV s.out ++ bytesV [UInt8.ofNat (s.low / 16777216)]) ∧ (u.ownBlock = vb ∨ ∃ b, u.ownBlock = some b ∧ w.heap.size ≤ b)) (fun i hi => by
      rw [HOTH.out i hi]
      exact fun v w w' h hg => ⟨own_keepN h.1 hg, h.2⟩) rfl rfl (fun a w hm ha hd => ⟨wanted_plain rfl, by
      obtain ⟨hr, hb⟩ := hd.at_ 11 rfl rfl rfl rfl
      exact ex_appendB rfl 0 v s.out.length (bytesV s.out) (hd.at_ 4 rfl rfl rfl rfl) (own_at2 HO.out (fun b hb => ha b (by rw [H12.out, ← HV.out.1, hb]) (own_block_lt HO.out hb))) _ [UInt8.ofNat (s.low / 16777216)] rfl hr (by have := HL.out; simp; omega) (Nat.zero_le _) (by rw [H12.out, ← HV.out.1]) HV.out.1 hm.grow.size⟩) ?_
  refine Walk.val (G := Is (.pointer (some ⟨g, 0, none⟩))) (stays_is _ _) rfl rfl (fun a w hm hd => ⟨wanted_plain rfl, st_nil rfl (hd.at_ 0 rfl rfl rfl rfl)⟩) ?_
  refine Walk.val (G := Is (.pointer (some ⟨g, 0, none⟩))) (stays_is _ _) rfl rfl (fun a w hm hd => ⟨wanted_plain rfl, st_fieldW0 rfl (hd.at_ 13 rfl rfl rfl rfl)⟩) ?_
  intro a9 V9 hm9 hall
  have f2 : Is (.pointer (some ⟨g, 0, none⟩)) (a9.eval (.tmp 2)) V9 := hall 0 _ _ rfl rfl
  have f3 : Is (.pointer (some ⟨g, 0, none⟩)) (a9.eval (.tmp 3)) V9 := hall 1 _ _ rfl rfl
  have g16 : Is (.pointer (some ⟨g, 0, none⟩)) (a9.eval (.tmp 16)) V9 := hall 14 _ _ rfl rfl
  obtain ⟨ho14, hat14⟩ := hall 12 _ _ rfl rfl
  change V9.ownsRow 0 _ 1 (a9.eval (.tmp 14)) _ _ at ho14
  change (a9.eval (.tmp 14)).ownBlock = vb ∨ ∃ b, (a9.eval (.tmp 14)).ownBlock = some b ∧ w.heap.size ≤ b at hat14
  obtain ⟨A, c, h14⟩ := own_form ho14
  have R9 := hm9.grow.rowC HR.out HG.out
  have hfr := hm9.frame
  simp only [List.take_succ_cons, List.take_zero, List.filterMap_cons, List.filterMap_nil, List.foldl_cons, List.foldl_nil] at hfr
  have W9 : Wn [g] w vb V9 vb := ⟨hm9.grow.os, hm9.grow.tape, hm9.grow.output, hm9.grow.size, fun k hk h1 h2 => hm9.grow.block k hk (fun e => h2 (HM.out k e).symm), .inl rfl⟩
  rw [h14] at ho14 hat14
  rw [h14] at hfr
  refine wpList_storeB rfl rfl _ _ rfl g 0 _ _ A _ c g16 h14 R9 (by simp) ?_
  obtain ⟨W3, hW3⟩ : ∃ W, V9.setCell ⟨g, 0, none⟩ (.slice A (s.out.length + 1) c) = W := ⟨_, rfl⟩
  have R3 := R9.set 0 (.slice A (s.out.length + 1) c)
  have N3 : Wn [g] w vb W3 vb := W9.grown (by rw [← hW3]; exact grown_set V9 g 0 _) (fun b e => by cases e; exact .inl (List.mem_singleton.2 rfl))
  have hneg : (Value.slice A (s.out.length + 1) c).ownBlock ≠ some g := by
    rcases hat14 with e | ⟨b, e, hb⟩
    · rw [e]; exact HV.out.2
    · rw [e]
      intro e2
      cases e2
      have := HR.out.lt
      omega
  have O3 : W3.ownsRow 0 5 1 (.slice A (s.out.length + 1) c) (s.out.length + 1) (bytesV s.out ++ bytesV [UInt8.ofNat (s.low / 16777216)]) :=
    own_at2 ho14 (fun b hb => by rw [← hW3]; exact heap_setCell_other V9 _ b _ (fun e => hneg (by rw [hb, e])))
  rw [hW3] at R3
  rw [hW3]
  simp only [List.set_cons_zero] at R3
  generalize a9.eval (.tmp 2) = e2 at hfr
  generalize a9.eval (.tmp 3) = e3 at hfr
  generalize a9.eval (.tmp 4) = e4 at hfr
  generalize a9.eval (.tmp 5) = e5 at hfr
  generalize a9.eval (.tmp 6) = e6 at hfr
  generalize a9.eval (.tmp 7) = e7 at hfr
  generalize a9.eval (.tmp 8) = e8 at hfr
  generalize a9.eval (.tmp 9) = e9 at hfr
  generalize a9.eval (.tmp 10) = e10 at hfr
  generalize a9.eval (.tmp 11) = e11 at hfr
  generalize a9.eval (.tmp 12) = e12 at hfr
  generalize a9.eval (.tmp 13) = e13 at hfr
  generalize a9.eval (.tmp 15) = e15 at hfr
  generalize a9.eval (.tmp 16) = e16 at hfr
  have c1 := R3.cell (j := 1) rfl
  have k1 := R3.frozen 1
  have R3 := Lib.hid R3
  have N3 := Lib.hid N3
  have O3 := Lib.hid O3
  have HNE := Lib.hid hneg
  have HAT := Lib.hid hat14
  clear f2 f3 g16 ho14 hat14 h14 R9 hall hm9 W9 hneg
  unfold wpList
  rw [hfr]
  clear hfr hW3
  go_simp
  go_wp2
  refine bodyPost_end (results_none rfl _ _ _) rfl ?_
  have e1 := HS.out
  have e2 : (s.low : Int) * 256 % 4294967296 = (((tellS s).low : Nat) : Int) := by
    show _ = ((s.low % 16777216 * 256 : Nat) : Int)
    omega
  rw [e2]
  have G4 := grown_set W3 g 1 (.int .u32 (((tellS s).low : Nat) : Int))
  refine ⟨rfl, (Value.slice A (s.out.length + 1) c).ownBlock, ⟨_, R3.out.set 1 _, ?_, rfl, HNE.out⟩, ?_⟩
  · have := own_at2 O3.out (fun b hb => G4.block b (own_block_lt O3.out hb) (fun e => HNE.out (by rw [hb, e])))
    rw [← bytesV_app] at this
    simpa [tellS] using this
  · have h4 := N3.out.grown G4 (fun b e => by cases e; exact .inl (List.mem_singleton.2 rfl))
    exact ⟨h4.os, h4.tape, h4.output, h4.size, h4.block, HAT.out⟩
end Go.Proofs.Ytohndlfekecfoaa
