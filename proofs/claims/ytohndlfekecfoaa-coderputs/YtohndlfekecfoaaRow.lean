/-
  Whole rows of memory (of no program): a block that holds these cells; a store into it; an array taken out of it or laid into it whole.
-/
import Derived.Test.YtohndlfekecfoaaBase
import Derived.Deep.WholeRow
import Derived.Laws.CopyRow
import Derived.Laws.CopyOwn
import Derived.Deep.QuietTactic
namespace Go.Proofs.Ytohndlfekecfoaa
set_option maxRecDepth 1000000
open Go.RowKit

/-- Block g holds these cells. -/
def Row (w : World) (g : Nat) (t : TypeId) (cs : List Value) : Prop := w.heap[g]? = some (.cells cs.toArray t (0, 0))

theorem Row.lt {w : World} {g : Nat} {t : TypeId} {cs : List Value} (h : Row w g t cs) : g < w.heap.size := (Array.getElem?_eq_some_iff.1 h).1
theorem Row.cell {w : World} {g : Nat} {t : TypeId} {cs : List Value} (h : Row w g t cs) {j : Nat} {u : Value} (hu : cs[j]? = some u) : w.cell? ⟨g, j, none⟩ = some u := by
  rw [cell_of_row w g j _ t _ h]
  simpa using hu
theorem Row.frozen {w : World} {g : Nat} {t : TypeId} {cs : List Value} (h : Row w g t cs) (j : Nat) : w.frozen? ⟨g, j, none⟩ = false := frozen_of_row w g j _ t h
theorem Row.grown {w w' : World} {g : Nat} {t : TypeId} {cs : List Value} {row : Option Nat} (h : Row w g t cs) (hg : w.grownBy w' row) (hne : some g ≠ row) : Row w' g t cs := (hg.block g h.lt hne).trans h
theorem Row.grown0 {w w' : World} {g : Nat} {t : TypeId} {cs : List Value} (h : Row w g t cs) (hg : w.grownBy w' none) : Row w' g t cs := h.grown hg (by simp)
theorem Row.set {w : World} {g : Nat} {t : TypeId} {cs : List Value} (h : Row w g t cs) (i : Nat) (v : Value) : Row (w.setCell ⟨g, i, none⟩ v) g t (cs.set i v) := by
  have := heap_setCell_same w g i _ t v h
  simpa [Row] using this
theorem grown_set (w : World) (g i : Nat) (v : Value) : w.grownBy (w.setCell ⟨g, i, none⟩ v) (some g) :=
  ⟨rfl, rfl, rfl, by simp, fun k _ hne => heap_setCell_other w _ k v (fun e => hne (by rw [e]))⟩
theorem Row.other {w : World} {g g' i : Nat} {t : TypeId} {cs : List Value} (h : Row w g t cs) (hne : g ≠ g') (v : Value) : Row (w.setCell ⟨g', i, none⟩ v) g t cs := h.grown (grown_set w g' i v) (by simpa using hne)
theorem Row.alloc {w : World} {g : Nat} {t : TypeId} {cs : List Value} (h : Row w g t cs) (o : Obj) : Row (w.alloc o) g t cs := h.grown0 (grown_alloc (grown_refl _ _) _)
theorem Row.new (w : World) (t : TypeId) (cs : List Value) : Row (w.alloc (.cells cs.toArray t)) w.heap.size t cs := heap_alloc_last w _
theorem Row.newAt (w : World) (t : TypeId) (cs : List Value) {g : Nat} (hg : w.heap.size = g) : Row (w.alloc (.cells cs.toArray t)) g t cs := by subst hg; exact Row.new w t cs
theorem Row.drew {w : World} {g : Nat} {t : TypeId} {cs : List Value} (h : Row w g t cs) : Row w.drew g t cs := h
theorem heap_drewN (w : World) (n : Nat) : (w.drewN n).heap = w.heap ∧ (w.drewN n).os = w.os ∧ (w.drewN n).tape = w.tape ∧ (w.drewN n).output = w.output := ⟨rfl, rfl, rfl, rfl⟩
theorem Row.drewN {w : World} {g : Nat} {t : TypeId} {cs : List Value} (h : Row w g t cs) (n : Nat) : Row (w.drewN n) g t cs := h
theorem grown_drewN {w w' : World} {row : Option Nat} (h : w.grownBy w' row) (n : Nat) : w.grownBy (w'.drewN n) row := ⟨h.os, h.tape, h.output, h.size, h.block⟩
theorem grown_setRow (w : World) (g : Nat) (cs : Array Value) : w.grownBy (w.setRow g cs) (some g) :=
  ⟨rfl, rfl, rfl, by simp, fun k _ hne => setRow_other w g k cs (fun e => hne (by rw [e]))⟩
theorem Row.setRow {w : World} {g : Nat} {t : TypeId} {cs : List Value} (h : Row w g t cs) (cs' : List Value) : Row (w.setRow g cs'.toArray) g t cs' := setRow_heap w g _ _ t _ h
/-- A block that is new since w may be turned. -/
theorem grown_own {w w1 w2 : World} {g : Nat} (h : w.grownBy w1 none) (k : w1.grownBy w2 (some g)) (hr : w.heap.size ≤ g) : w.grownBy w2 none :=
  grown_new h k (by rintro b e; cases e; exact hr)

section
variable {P : Program}
/-- A whole array (or struct) out of the middle of a block. -/
theorem run_load_part (w : World) (g o : Nat) (t ty : TypeId) (cs xs : List Value) (d : TypeDesc) (h : Row w g t cs) (hx : ∀ (j : Nat) u, xs[j]? = some u → cs[o + j]? = some u)
    (hu : P.underlying ty = some d) (hd : (match d with | .struct _ | .array _ _ => true | _ => false) = true) (hi : (P.info? ty).map (·.size) = some xs.length) :
    (loadVar ty ⟨g, o, none⟩).run P w = .ok (.agg xs.toArray) w := by
  have hl : (loadCells ⟨g, o, none⟩ xs.length).run P w = .ok xs.toArray w :=
    run_loadCells_list (P := P) w ⟨g, o, none⟩ xs (fun j v hv => by
      have hadd : (⟨g, o, none⟩ : Addr).add j = ⟨g, o + j, none⟩ := by unfold Addr.add; split <;> simp_all
      rw [hadd]
      exact h.cell (hx j v hv))
  cases hq : P.info? ty with
  | none => simp [hq] at hi
  | some i =>
    have hs : i.size = xs.length := by simpa [hq] using hi
    cases d <;> simp_all [loadVar, isAgg, run_underlying hu, sizeOf, typeInfo]
theorem run_loadAt_part (w : World) (g o : Nat) (t ty : TypeId) (cs xs : List Value) (d : TypeDesc) (h : Row w g t cs) (hx : ∀ (j : Nat) u, xs[j]? = some u → cs[o + j]? = some u)
    (hu : P.underlying ty = some d) (hd : (match d with | .struct _ | .array _ _ => true | _ => false) = true) (hi : (P.info? ty).map (·.size) = some xs.length) :
    (Instr.loadAt ty (.pointer (some ⟨g, o, none⟩))).run P w = .ok (.agg xs.toArray) w := by
  simp only [Instr.loadAt, Instr.sureAddr, Sem.run_bind, Sem.run_pure, Result.andThen]
  exact run_load_part w g o t ty cs xs d h hx hu hd hi
/-- A whole array (or struct) into the middle of a block. -/
theorem run_storeAt_part (w : World) (g o : Nat) (t ty : TypeId) (cs xs : List Value) (h : Row w g t cs) (hfit : o + xs.length ≤ cs.length) (h1 : ∀ x ∈ xs, x.oneCell' = true)
    (hi : (P.info? ty).map (·.size) = some xs.length) :
    (Instr.storeAt ty (.pointer (some ⟨g, o, none⟩)) (.agg xs.toArray)).run P w = .ok () (w.setRow g (cs.take o ++ xs ++ cs.drop (o + xs.length)).toArray) := by
  have := run_storeCells_at P g o t xs 0 cs.toArray w h (by simpa using hfit) h1
  simp only [Instr.storeAt, Instr.sureAddr, Sem.run_bind, Sem.run_pure, Result.andThen]
  cases hq : P.info? ty with
  | none => simp [hq] at hi
  | some i =>
    have hs : i.size = xs.length := by simpa [hq] using hi
    simp [storeVar, sizeOf, typeInfo, hq, Value.cells, hs, this]

/-- The same at an operation of the walk. -/
theorem wpList_load_part (w : World) {ops : Array Oper} {rest : List Oper} {o : Oper} {a : Act} {Q : Exit → Act → World → Prop} (hgd : o.guard = none) (x : Operand) (ty : TypeId) (ho : o.op = .load ty x)
    (g off : Nat) (t : TypeId) (cs xs : List Value) (d : TypeDesc) (hv : a.eval x = .pointer (some ⟨g, off, none⟩)) (hr : Row w g t cs) (hx : ∀ (j : Nat) u, xs[j]? = some u → cs[off + j]? = some u)
    (hu : P.underlying ty = some d) (hd : (match d with | .struct _ | .array _ _ => true | _ => false) = true) (hi : (P.info? ty).map (·.size) = some xs.length)
    (h : wpList P ops Q rest (a.put o.dst (.agg xs.toArray)) w) : wpList P ops Q (o :: rest) a w :=
  wpList_plain hgd fun _ hK => by
    have hrun := run_loadAt_part (P := P) w g off t ty cs xs d hr hx hu hd hi
    unfold Oper.wp execOp
    simp only [ho, hv, Sem.run_bind, hrun, Result.andThen_ok, Sem.run_pure]
    exact hK _ _ h
theorem wpList_store_part (w : World) {ops : Array Oper} {rest : List Oper} {o : Oper} {a : Act} {Q : Exit → Act → World → Prop} (hgd : o.guard = none) (hdst : o.dst = none) (x y : Operand) (ty : TypeId) (ho : o.op = .store ty x y)
    (g off : Nat) (t : TypeId) (cs xs : List Value) (hv : a.eval x = .pointer (some ⟨g, off, none⟩)) (hy : a.eval y = .agg xs.toArray) (hr : Row w g t cs) (hfit : off + xs.length ≤ cs.length) (h1 : ∀ x ∈ xs, x.oneCell' = true)
    (hi : (P.info? ty).map (·.size) = some xs.length)
    (h : ∀ w', Row w' g t (cs.take off ++ xs ++ cs.drop (off + xs.length)) → w.grownBy w' (some g) → wpList P ops Q rest a w') : wpList P ops Q (o :: rest) a w :=
  wpList_plain hgd fun _ hK => by
    have hrun := run_storeAt_part (P := P) w g off t ty cs xs hr hfit h1 hi
    unfold Oper.wp execOp
    simp only [ho, hv, hy, Sem.run_bind, hrun, Result.andThen_ok, Sem.run_pure]
    rw [Oper.upon_skip]
    refine hK _ _ ?_
    rw [hdst]
    exact h _ (hr.setRow _) (grown_setRow _ _ _)
/-- A whole block taken out, and laid in. -/
theorem wpList_load_row (w : World) {ops : Array Oper} {rest : List Oper} {o : Oper} {a : Act} {Q : Exit → Act → World → Prop} (hgd : o.guard = none) (x : Operand) (ty : TypeId) (ho : o.op = .load ty x)
    (g : Nat) (t : TypeId) (cs : List Value) (d : TypeDesc) (hv : a.eval x = .pointer (some ⟨g, 0, none⟩)) (hr : Row w g t cs)
    (hu : P.underlying ty = some d) (hd : (match d with | .struct _ | .array _ _ => true | _ => false) = true) (hi : (P.info? ty).map (·.size) = some cs.length)
    (h : wpList P ops Q rest (a.put o.dst (.agg cs.toArray)) w) : wpList P ops Q (o :: rest) a w :=
  wpList_load_part w hgd x ty ho g 0 t cs cs d hv hr (fun j u hu => by rw [Nat.zero_add]; exact hu) hu hd hi h
theorem wpList_store_row (w : World) {ops : Array Oper} {rest : List Oper} {o : Oper} {a : Act} {Q : Exit → Act → World → Prop} (hgd : o.guard = none) (hdst : o.dst = none) (x y : Operand) (ty : TypeId) (ho : o.op = .store ty x y)
    (g : Nat) (t : TypeId) (cs xs : List Value) (hv : a.eval x = .pointer (some ⟨g, 0, none⟩)) (hy : a.eval y = .agg xs.toArray) (hr : Row w g t cs) (hfit : xs.length = cs.length) (h1 : ∀ x ∈ xs, x.oneCell' = true)
    (hi : (P.info? ty).map (·.size) = some xs.length)
    (h : ∀ w', Row w' g t xs → w.grownBy w' (some g) → wpList P ops Q rest a w') : wpList P ops Q (o :: rest) a w :=
  wpList_store_part w hgd hdst x y ty ho g 0 t cs xs hv hy hr (by omega) h1 hi (fun w' hr' hg => by
    refine h w' ?_ hg
    rw [List.take_zero, List.nil_append, Nat.zero_add, hfit, List.drop_length, List.append_nil] at hr'
    exact hr')
/-- A result that lies in a block of its own. -/
theorem results_row {tmps : Array Value} {w : World} {f : Func} {d : Nat} {ty : TypeId} (hres : f.results = #[.cell d ty]) (g : Nat) (t : TypeId) (cs : List Value) (de : TypeDesc) (hv : tmps.getD d undef = .pointer (some ⟨g, 0, none⟩)) (hr : Row w g t cs)
    (hu : P.underlying ty = some de) (hd : (match de with | .struct _ | .array _ _ => true | _ => false) = true) (hi : (P.info? ty).map (·.size) = some cs.length) :
    (results f tmps).run P w = .ok (.agg cs.toArray) w := by
  have hl := run_load_part (P := P) w g 0 t ty cs cs de hr (fun j u hu => by rw [Nat.zero_add]; exact hu) hu hd hi
  simp only [results, hres]
  rw [Array.getD_eq_getD_getElem?] at hv
  simp [hv, asAddr, hl]
end
end Go.Proofs.Ytohndlfekecfoaa
