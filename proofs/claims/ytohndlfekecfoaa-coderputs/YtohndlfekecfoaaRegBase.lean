/-
  The steps of such a region, an operation each (of no layer).
-/
import Derived.Test.YtohndlfekecfoaaRegion
namespace Go.Proofs.Ytohndlfekecfoaa
set_option maxRecDepth 1000000
open Go.RowKit

/-- The chain, with what is known laid the other way round. -/
def Steps (P : Program) (ops : Array Oper) (Q : Exit → Act → World → Prop) (row : Option Nat) (w0 : World) (a0 : Act) : Nat → List Oper → List (Value → World → Prop) → Prop
  | _, [], env => ∀ a w, Mid ops row w0 a0 a w → (∀ (j : Nat) (G : Value → World → Prop) (d : Tmp), env.reverse[j]? = some G → (ops[j]?).bind (fun o => o.dst) = some d → G (a.eval (.tmp d)) w) → Q .normal a w
  | k, o :: rest, env => ∃ G, Lasts row G ∧ (∀ a w, Mid ops row w0 a0 a w → Deps ops env.reverse o a w → wpOp P ops Q k (Leaves row o a w G) a w) ∧ Steps P ops Q row w0 a0 (k + 1) rest (G :: env)

section
variable {P : Program} {ops : Array Oper} {Q : Exit → Act → World → Prop} {row : Option Nat} {w0 : World} {a0 : Act}

theorem chain_of_steps : ∀ (l : List Oper) (k : Nat) (env : List (Value → World → Prop)), Steps P ops Q row w0 a0 k l env → Chain P ops Q row w0 a0 k l env.reverse
  | [], _, _, h => h
  | o :: rest, k, env, ⟨G, h1, h2, h3⟩ => ⟨G, h1, h2, by
      have := chain_of_steps rest (k + 1) (G :: env) h3
      rwa [List.reverse_cons] at this⟩

theorem wp_region_steps {id : Nat} {l : List Oper} (row : Option Nat) (hm : P.follows .mixedOrders = true) (hfit : fitB l.toArray = true) (hslots : (l.all fun o => match o.dst with | some d => decide (d < a0.tmps.size) | none => true) = true)
    (h : Steps P l.toArray Q row w0 a0 0 l []) : (Code.region id l.toArray true).wp P Q a0 w0 :=
  wp_region_grow hm hfit hslots (chain_of_steps l 0 [] h)

def Is (u : Value) (v : Value) (_ : World) : Prop := v = u
def IsB (l : List UInt8) (v : Value) (w : World) : Prop := Rd w v (bytesV l)
theorem lasts_is (u : Value) : Lasts row (Is u) := fun _ _ _ h _ => h
theorem lasts_bytes (l : List UInt8) : Lasts none (IsB l) := fun _ _ _ h hg => Rd.grown0 h hg

theorem Deps.at_ {env : List (Value → World → Prop)} {o : Oper} {a : Act} {w : World} (h : Deps ops env o a w) (j : Nat) {G : Value → World → Prop} {d : Tmp} (hj : (depsOf o).contains j = true) (hG : env[j]? = some G)
    (hd : (ops[j]?).bind (fun o => o.dst) = some d) : G (a.eval (.tmp d)) w := h j (by simpa using hj) G d hG hd

/-- Operation o is wanted. -/
def Wanted (ops : Array Oper) (o : Oper) (a : Act) : Prop := Region.wanted o (yielded ops a.tmps) = true
theorem wanted_plain {o : Oper} {a : Act} (h : o.guard = none) : Wanted ops o a := by simp [Wanted, Region.wanted, h]
theorem wanted_at {o : Oper} {a : Act} {g : Nat} {b : Bool} {d : Tmp} {w : World} (h : o.guard = some (g, b)) (hd : (ops[g]?).bind (fun o => o.dst) = some d) (hv : Is (.bool b) (a.eval (.tmp d)) w) : Wanted ops o a := by
  have h1 : a.tmps[d]? = some (.bool b) := by
    have : a.tmps.getD d undef = .bool b := hv
    rw [Array.getD_eq_getD_getElem?] at this
    cases hx : a.tmps[d]? with
    | none => rw [hx] at this; simp [undef] at this
    | some y => rw [hx] at this; simpa using this
  simp [Wanted, Region.wanted, h, yielded, hd, h1]

/-- An operation that is no call: its value. -/
theorem Steps.val {env : List (Value → World → Prop)} {k : Nat} {o : Oper} {rest : List Oper} {G : Value → World → Prop} (hl : Lasts row G) (ho : ops[k]? = some o)
    (hs : ∀ a w, Mid ops row w0 a0 a w → Deps ops env.reverse o a w → Wanted ops o a ∧ ∃ v, (execOp a.eval o).run P w = .ok (.value v) w ∧ G v w)
    (hc : Steps P ops Q row w0 a0 (k + 1) rest (G :: env)) : Steps P ops Q row w0 a0 k (o :: rest) env := by
  refine ⟨G, hl, fun a w hm hd => ?_, hc⟩
  obtain ⟨hw, v, hr, hG⟩ := hs a w hm hd
  unfold wpOp
  rw [ho]
  simp only
  rw [if_pos (show Region.wanted o (yielded ops a.tmps) = true from hw)]
  refine .inl ?_
  unfold Oper.wp
  rw [hr, Oper.upon_value]
  exact ⟨v, rfl, grown_refl _ _, hG⟩

/-- An operation that is no call and makes memory. -/
theorem Steps.make {env : List (Value → World → Prop)} {k : Nat} {o : Oper} {rest : List Oper} {G : Value → World → Prop} (hl : Lasts row G) (ho : ops[k]? = some o)
    (hs : ∀ a w, Mid ops row w0 a0 a w → Deps ops env.reverse o a w → Wanted ops o a ∧ ∃ v w', (execOp a.eval o).run P w = .ok (.value v) w' ∧ w.grownBy w' row ∧ G v w')
    (hc : Steps P ops Q row w0 a0 (k + 1) rest (G :: env)) : Steps P ops Q row w0 a0 k (o :: rest) env := by
  refine ⟨G, hl, fun a w hm hd => ?_, hc⟩
  obtain ⟨hw, v, w', hr, hg, hG⟩ := hs a w hm hd
  unfold wpOp
  rw [ho]
  simp only
  rw [if_pos (show Region.wanted o (yielded ops a.tmps) = true from hw)]
  refine .inl ?_
  unfold Oper.wp
  rw [hr, Oper.upon_value]
  exact ⟨v, rfl, hg, hG⟩

/-- A call of a Go function. -/
theorem Steps.call {env : List (Value → World → Prop)} {k : Nat} {o : Oper} {rest : List Oper} {G : Value → World → Prop} (hl : Lasts row G) (ho : ops[k]? = some o) (f : FuncId)
    (hs : ∀ a w, Mid ops row w0 a0 a w → Deps ops env.reverse o a w → Wanted ops o a ∧ ∃ args, (execOp a.eval o).run P w = .ok (.enter f args) w ∧ Calls P f args w fun e w' => ∃ v, e = .returned v ∧ w.grownBy w' row ∧ G v w')
    (hc : Steps P ops Q row w0 a0 (k + 1) rest (G :: env)) : Steps P ops Q row w0 a0 k (o :: rest) env := by
  refine ⟨G, hl, fun a w hm hd => ?_, hc⟩
  obtain ⟨hw, args, hr, hC⟩ := hs a w hm hd
  unfold wpOp
  rw [ho]
  simp only
  rw [if_pos (show Region.wanted o (yielded ops a.tmps) = true from hw)]
  refine .inl ?_
  unfold Oper.wp
  rw [hr, Oper.upon_enter]
  refine hC.mono ?_
  rintro e w' ⟨v, rfl, hg, hG⟩
  exact ⟨v, rfl, hg, hG⟩
end

section
variable {P : Program} {o : Oper} {a : Act} {w : World}
theorem ex_move {x : Operand} (h : o.op = .move x) : (execOp a.eval o).run P w = .ok (.value (a.eval x)) w := by simp [execOp, h]
theorem ex_assign {x : Operand} (h : o.op = .assign x) : (execOp a.eval o).run P w = .ok (.value (a.eval x)) w := by simp [execOp, h]
theorem ex_pick {c x y : Operand} {v : Value} (h : o.op = .pick c x y) (hc : Is (.bool true) (a.eval c) w) (hx : Is v (a.eval x) w) : (execOp a.eval o).run P w = .ok (.value v) w := by
  have hc' : a.eval c = .bool true := hc
  have hx' : a.eval x = v := hx
  simp [execOp, h, hc', hx', asBool]
theorem ex_call {f : FuncId} {fn : Func} {xs : Array Operand} {ts : Array TypeId} (hf : P.funcs[f]? = some fn) (hname : (fn.name == "runtime.NumGoroutine") = false) (hb : fn.body.isSome = true)
    (h : o.op = .call { callee := .value (.func f), args := xs, argTypes := ts }) : (execOp a.eval o).run P w = .ok (.enter f (xs.map a.eval)) w := by
  have h1 : fn.name ≠ "runtime.NumGoroutine" := by simpa using hname
  obtain ⟨c, hc⟩ := Option.isSome_iff_exists.1 hb
  have h2 : ∀ args, (callFunc f args).run P w = .ok (.enter f args) w := fun args => by simp [callFunc, hf, h1, hc, mark]
  simp [execOp, h, resolve, invoke, Act.eval, Deferred.ofValue, h2]
theorem ex_call0 {f : FuncId} {fn : Func} {ts : Array TypeId} (hf : P.funcs[f]? = some fn) (hname : (fn.name == "runtime.NumGoroutine") = false) (hb : fn.body.isSome = true)
    (h : o.op = .call { callee := .value (.func f), args := #[], argTypes := ts }) : (execOp a.eval o).run P w = .ok (.enter f #[]) w := by
  simpa using ex_call (a := a) (w := w) hf hname hb h
theorem ex_call1 {f : FuncId} {fn : Func} {x0 : Operand} {ts : Array TypeId} (hf : P.funcs[f]? = some fn) (hname : (fn.name == "runtime.NumGoroutine") = false) (hb : fn.body.isSome = true)
    (h : o.op = .call { callee := .value (.func f), args := #[x0], argTypes := ts }) : (execOp a.eval o).run P w = .ok (.enter f #[a.eval x0]) w := by
  simpa using ex_call (a := a) (w := w) hf hname hb h
theorem ex_call2 {f : FuncId} {fn : Func} {x0 x1 : Operand} {ts : Array TypeId} (hf : P.funcs[f]? = some fn) (hname : (fn.name == "runtime.NumGoroutine") = false) (hb : fn.body.isSome = true)
    (h : o.op = .call { callee := .value (.func f), args := #[x0, x1], argTypes := ts }) : (execOp a.eval o).run P w = .ok (.enter f #[a.eval x0, a.eval x1]) w := by
  simpa using ex_call (a := a) (w := w) hf hname hb h
theorem ex_call3 {f : FuncId} {fn : Func} {x0 x1 x2 : Operand} {ts : Array TypeId} (hf : P.funcs[f]? = some fn) (hname : (fn.name == "runtime.NumGoroutine") = false) (hb : fn.body.isSome = true)
    (h : o.op = .call { callee := .value (.func f), args := #[x0, x1, x2], argTypes := ts }) : (execOp a.eval o).run P w = .ok (.enter f #[a.eval x0, a.eval x1, a.eval x2]) w := by
  simpa using ex_call (a := a) (w := w) hf hname hb h
theorem ex_call4 {f : FuncId} {fn : Func} {x0 x1 x2 x3 : Operand} {ts : Array TypeId} (hf : P.funcs[f]? = some fn) (hname : (fn.name == "runtime.NumGoroutine") = false) (hb : fn.body.isSome = true)
    (h : o.op = .call { callee := .value (.func f), args := #[x0, x1, x2, x3], argTypes := ts }) : (execOp a.eval o).run P w = .ok (.enter f #[a.eval x0, a.eval x1, a.eval x2, a.eval x3]) w := by
  simpa using ex_call (a := a) (w := w) hf hname hb h
theorem ex_call5 {f : FuncId} {fn : Func} {x0 x1 x2 x3 x4 : Operand} {ts : Array TypeId} (hf : P.funcs[f]? = some fn) (hname : (fn.name == "runtime.NumGoroutine") = false) (hb : fn.body.isSome = true)
    (h : o.op = .call { callee := .value (.func f), args := #[x0, x1, x2, x3, x4], argTypes := ts }) : (execOp a.eval o).run P w = .ok (.enter f #[a.eval x0, a.eval x1, a.eval x2, a.eval x3, a.eval x4]) w := by
  simpa using ex_call (a := a) (w := w) hf hname hb h
theorem ex_call6 {f : FuncId} {fn : Func} {x0 x1 x2 x3 x4 x5 : Operand} {ts : Array TypeId} (hf : P.funcs[f]? = some fn) (hname : (fn.name == "runtime.NumGoroutine") = false) (hb : fn.body.isSome = true)
    (h : o.op = .call { callee := .value (.func f), args := #[x0, x1, x2, x3, x4, x5], argTypes := ts }) : (execOp a.eval o).run P w = .ok (.enter f #[a.eval x0, a.eval x1, a.eval x2, a.eval x3, a.eval x4, a.eval x5]) w := by
  simpa using ex_call (a := a) (w := w) hf hname hb h
end
end Go.Proofs.Ytohndlfekecfoaa
