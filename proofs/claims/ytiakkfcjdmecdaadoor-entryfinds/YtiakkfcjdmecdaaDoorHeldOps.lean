/-
  A region that draws its order, its operations one by one: one that may come now is a value, a call, or a store (of no program).
-/
import Derived.Test.YtiakkfcjdmecdaaDoorHeld
import Derived.Test.YtiakkfcjdmecdaaDoorMMem
namespace Go.Proofs.YtiakkfcjdmecdaaDoor
set_option maxRecDepth 1000000
open Go.RowKit

section
variable {P : Program} {ops : Array Oper} {Q : Exit → Act → World → Prop} {K : Act → World → Prop} {a : Act} {w : World}
theorem op_val (i : Nat) {o : Oper} (hi : ops[i]? = some o) (hgd : o.guard = none) {v : Value} {w' : World} (hrun : (execOp a.eval o).run P w = .ok (.value v) w') (h : K (a.put o.dst v) w') : wpOp P ops Q i K a w := by
  unfold wpOp
  rw [hi]
  simp only
  rw [if_pos (by simp [Region.wanted, hgd])]
  refine .inl ?_
  unfold Oper.wp
  rw [hrun, Oper.upon_value]
  exact h
theorem op_call (i : Nat) {o : Oper} (hi : ops[i]? = some o) (hgd : o.guard = none) {f : FuncId} {args : Array Value} (hrun : (execOp a.eval o).run P w = .ok (.enter f args) w)
    (h : Calls P f args w fun e w' => ∃ v, e = .returned v ∧ K (a.put o.dst v) w') : wpOp P ops Q i K a w := by
  unfold wpOp
  rw [hi]
  simp only
  rw [if_pos (by simp [Region.wanted, hgd])]
  refine .inl ?_
  unfold Oper.wp
  rw [hrun, Oper.upon_enter]
  refine h.mono ?_
  rintro e w' ⟨v, rfl, hh⟩
  exact hh
theorem op_store (i : Nat) {o : Oper} (hi : ops[i]? = some o) (hgd : o.guard = none) (hdst : o.dst = none) (x y : Operand) (ty : TypeId) (ho : o.op = .store ty x y)
    (g : Nat) (t : TypeId) (cs xs : List Value) (hv : a.eval x = .pointer (some ⟨g, 0, none⟩)) (hy : a.eval y = .agg xs.toArray) (hr : Row w g t cs) (hfit : xs.length = cs.length) (h1 : ∀ x ∈ xs, x.oneCell' = true)
    (hi2 : (P.info? ty).map (·.size) = some xs.length)
    (h : ∀ w', Row w' g t xs → w.grownBy w' (some g) → K a w') : wpOp P ops Q i K a w := by
  have hrun := run_storeAt_part (P := P) w g 0 t ty cs xs hr (by omega) h1 hi2
  unfold wpOp
  rw [hi]
  simp only
  rw [if_pos (by simp [Region.wanted, hgd])]
  refine .inl ?_
  unfold Oper.wp execOp
  simp only [ho, hv, hy, Sem.run_bind, hrun, Result.andThen_ok, Sem.run_pure]
  rw [Oper.upon_skip, hdst]
  refine h _ ?_ (grown_setRow _ _ _)
  have := hr.setRow (cs.take 0 ++ xs ++ cs.drop (0 + xs.length))
  rw [List.take_zero, List.nil_append, Nat.zero_add, hfit, List.drop_length, List.append_nil] at this
  rw [List.take_zero, List.nil_append, Nat.zero_add, hfit, List.drop_length, List.append_nil]
  exact this
end
end Go.Proofs.YtiakkfcjdmecdaaDoor
