/-
  Operations of laws over this program, each as a step, without bytes: what it answers, and what is known of that (numbers, truth, parts of what a call answers).
-/
import Derived.Test.YtiakkfcjdmecdaaDoorMMem
import Derived.Test.YtiakkfcjdmecdaaDoorChecked
namespace Go.Proofs.YtiakkfcjdmecdaaDoor
set_option maxRecDepth 1000000
open Go.RowKit

/-- Operation o answers a value of which G is known, and turns nothing. -/
def Runs (G : Value → World → Prop) (o : Oper) (a : Act) (w : World) : Prop := ∃ v, (execOp a.eval o).run Tryd.prog w = .ok (.value v) w ∧ G v w
section
variable {o : Oper} {a : Act} {w : World}
theorem st_move {G : Value → World → Prop} {x : Operand} (h : o.op = .move x) (hx : G (a.eval x) w) : Runs G o a w := ⟨_, ex_move h, hx⟩
theorem st_assign {G : Value → World → Prop} {x : Operand} (h : o.op = .assign x) (hx : G (a.eval x) w) : Runs G o a w := ⟨_, ex_assign h, hx⟩
theorem st_pick {v : Value} {c x y : Operand} (h : o.op = .pick c x y) (hc : Is (.bool true) (a.eval c) w) (hx : Is v (a.eval x) w) : Runs (Is v) o a w := ⟨_, ex_pick h hc hx, rfl⟩
theorem st_pickF {v : Value} {c x y : Operand} (h : o.op = .pick c x y) (hc : Is (.bool false) (a.eval c) w) (hy : Is v (a.eval y) w) : Runs (Is v) o a w := by
  have hc' : a.eval c = .bool false := hc
  have hy' : a.eval y = v := hy
  exact ⟨v, by simp [execOp, h, hc', hy', asBool], rfl⟩
theorem st_eqi {x y : Operand} {p q : Int} (h : o.op = .binOp .eql 3 x y 3) (hx : Is (.int .i64 p) (a.eval x) w) (hy : Is (.int .i64 q) (a.eval y) w) (e : p = q) : Runs (Is (.bool true)) o a w := by
  have hx' : a.eval x = .int .i64 p := hx
  have hy' : a.eval y = .int .i64 q := hy
  subst e
  refine ⟨_, ?_, rfl⟩
  simp only [execOp, h, hx', hy']
  simp [go_sem]
theorem st_eqiB {x y : Operand} {p q : Int} (h : o.op = .binOp .eql 3 x y 3) (hx : Is (.int .i64 p) (a.eval x) w) (hy : Is (.int .i64 q) (a.eval y) w) : Runs (Is (.bool (decide (p = q)))) o a w := by
  have hx' : a.eval x = .int .i64 p := hx
  have hy' : a.eval y = .int .i64 q := hy
  have hd : (p == q) = decide (p = q) := by rw [Bool.eq_iff_iff, decide_eq_true_iff, beq_iff_eq]
  refine ⟨_, ?_, rfl⟩
  simp only [execOp, h, hx', hy']
  simp [go_sem, hd]
theorem st_addi {x y : Operand} {p q r : Int} (h : o.op = .binOp .add 3 x y 3) (hx : Is (.int .i64 p) (a.eval x) w) (hy : Is (.int .i64 q) (a.eval y) w) (e : p + q = r) (h0 : -1000000000000000 ≤ r ∧ r ≤ 1000000000000000) : Runs (Is (.int .i64 r)) o a w := by
  have hx' : a.eval x = .int .i64 p := hx
  have hy' : a.eval y = .int .i64 q := hy
  subst e
  have hw : IntKind.i64.wrap (p + q) = p + q := by rw [IntKind.wrap_i64]; omega
  refine ⟨_, ?_, rfl⟩
  simp only [execOp, h, hx', hy']
  simp [go_sem, hw]
theorem st_subi {x y : Operand} {p q r : Int} (h : o.op = .binOp .sub 3 x y 3) (hx : Is (.int .i64 p) (a.eval x) w) (hy : Is (.int .i64 q) (a.eval y) w) (e : p - q = r) (h0 : -1000000000000000 ≤ r ∧ r ≤ 1000000000000000) : Runs (Is (.int .i64 r)) o a w := by
  have hx' : a.eval x = .int .i64 p := hx
  have hy' : a.eval y = .int .i64 q := hy
  subst e
  have hw : IntKind.i64.wrap (p - q) = p - q := by rw [IntKind.wrap_i64]; omega
  refine ⟨_, ?_, rfl⟩
  simp only [execOp, h, hx', hy']
  simp [go_sem, hw]
theorem st_rem {x : Operand} {p : Nat} (d : Nat) {e : Int} (h : o.op = .binOp .rem 3 x (.const (.int .i64 e)) 3) (hx : Is (.int .i64 (p : Int)) (a.eval x) w) (he : e = (d : Int)) (hd : d ≠ 0) : Runs (Is (.int .i64 ((p % d : Nat) : Int))) o a w := by
  have hx' : a.eval x = .int .i64 (p : Int) := hx
  subst he
  have hc : a.eval (.const (.int .i64 (d : Int))) = .int .i64 (d : Int) := rfl
  have hm : (p : Int).tmod (d : Int) = ((p % d : Nat) : Int) := by rw [Int.tmod_eq_emod_of_nonneg (by omega)]; simp
  refine ⟨_, ?_, rfl⟩
  simp only [execOp, h, hx', hc]
  simp [go_sem, hm, hd]
theorem st_extract {x : Operand} {vs : Array Value} {v : Value} (k : Nat) (h : o.op = .extract x k) (hx : Is (.tuple vs) (a.eval x) w) (hv : vs[k]? = some v) : Runs (Is v) o a w := by
  have hx' : a.eval x = .tuple vs := hx
  refine ⟨v, ?_, rfl⟩
  simp only [execOp, h, hx']
  simp [go_sem, hv]
theorem st_not {x : Operand} {b : Bool} (h : o.op = .unOp .not 4 x) (hx : Is (.bool b) (a.eval x) w) : Runs (Is (.bool (!b))) o a w := by
  have hx' : a.eval x = .bool b := hx
  refine ⟨_, ?_, rfl⟩
  simp only [execOp, h, hx']
  simp [go_sem]
/-- A byte as an int; what is left of a number; a part of what a call answered. -/
theorem st_conv8 {x : Operand} {n : Nat} (h : o.op = .convert 5 3 x) (hx : Is (.int .u8 (n : Int)) (a.eval x) w) (hn : n < 256) : Runs (Is (.int .i64 (n : Int))) o a w := by
  have hx' : a.eval x = .int .u8 (n : Int) := hx
  have hw : IntKind.i64.wrap (n : Int) = (n : Int) := by rw [IntKind.wrap_i64]; omega
  refine ⟨_, ?_, rfl⟩
  simp only [execOp, h, hx']
  simp [go_sem, hw]
/-- A cell is read. -/
theorem st_cell {x : Operand} {ty : TypeId} {p : Addr} {v : Value} (h : o.op = .load ty x) (ha : ∀ W, (isAgg ty).run Tryd.prog W = .ok false W) (hx : Is (.pointer (some p)) (a.eval x) w) (hc : w.cell? p = some v) : Runs (Is v) o a w := by
  have hx' : a.eval x = .pointer (some p) := hx
  refine ⟨_, ?_, rfl⟩
  simp only [execOp, h, hx']
  simp [go_sem, ha, hc]
theorem st_min {x y : Operand} {p q r : Int} (h : o.op = .call { callee := .builtin .min, args := #[x, y], argTypes := #[3, 3] }) (hx : Is (.int .i64 p) (a.eval x) w) (hy : Is (.int .i64 q) (a.eval y) w) (e : min p q = r) : Runs (Is (.int .i64 r)) o a w := by
  subst e
  have hx' : a.eval x = .int .i64 p := hx
  have hy' : a.eval y = .int .i64 q := hy
  refine ⟨_, ?_, rfl⟩
  unfold execOp
  simp only [h, resolve, invoke, builtin, List.map_toArray, List.map_cons, List.map_nil, hx', hy']
  simp [go_sem]
  rw [Int.min_def]
  split <;> split <;> omega
end
end Go.Proofs.YtiakkfcjdmecdaaDoor
