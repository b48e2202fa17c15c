/-
  Operations of laws over this program, each as a step: what it answers, and what is known of that (numbers, strings, bytes, slices of bytes).
-/
import Derived.Test.YtiakkfcjdmecdaaDoorBytOps
import Derived.Test.YtiakkfcjdmecdaaDoorIntOps
namespace Go.Proofs.YtiakkfcjdmecdaaDoor
set_option maxRecDepth 1000000
open Go.RowKit

theorem stays_bytes (l : List UInt8) (j : Nat) : StaysBut [] j (IsB l) := fun _ _ _ _ _ h hg => Rd.grown0 h hg
theorem Out.made {l : List UInt8} {f : FuncId} {args : Array Value} {w : World} (h : Calls Tryd.prog f args w (Out w l)) : Calls Tryd.prog f args w (fun e w' => ∃ u, e = .returned u ∧ w.grownBy w' none ∧ IsB l u w') :=
  h.mono fun _ _ ⟨v, he, hr, hg, _⟩ => ⟨v, he, hg, hr⟩
section
variable {o : Oper} {a : Act} {w : World}
theorem st_len {x : Operand} {l : List UInt8} (h : o.op = .call { callee := .builtin .len, args := #[x], argTypes := #[45] }) (hx : IsB l (a.eval x) w) : Runs (Is (.int .i64 (l.length : Int))) o a w := by
  obtain ⟨A, c, hA⟩ := Rd.form hx
  rw [bytesV_len] at hA
  have hr : (Builtin.len_ #[45] o.type #[.slice A l.length c]).run Tryd.prog w = .ok (.int .i64 (l.length : Int)) w := by simp [go_sem]
  refine ⟨_, ?_, rfl⟩
  unfold execOp
  simp only [h, resolve, invoke, builtin, Sem.run_bind, Sem.run_pure, Result.andThen_ok, List.map_toArray, List.map_cons, List.map_nil, hA, hr]
theorem st_str {x : Operand} {l : List UInt8} (h : o.op = .convert 45 9 x) (hx : IsB l (a.eval x) w) : Runs (Is (.string ⟨l.toArray⟩)) o a w := ⟨_, ex_str h hx, rfl⟩
theorem st_eqs {x y : Operand} {l m : List UInt8} (h : o.op = .binOp .eql 9 x y 9) (hx : Is (.string ⟨l.toArray⟩) (a.eval x) w) (hy : Is (.string ⟨m.toArray⟩) (a.eval y) w) (e : l = m) : Runs (Is (.bool true)) o a w := by
  subst e
  exact ⟨_, ex_eqs h hx hy, rfl⟩
theorem st_nes {x y : Operand} {l m : List UInt8} (h : o.op = .binOp .neq 9 x y 9) (hx : Is (.string ⟨l.toArray⟩) (a.eval x) w) (hy : Is (.string ⟨m.toArray⟩) (a.eval y) w) : Runs (Is (.bool (!decide (l = m)))) o a w := by
  have hx' : a.eval x = .string ⟨l.toArray⟩ := hx
  have hy' : a.eval y = .string ⟨m.toArray⟩ := hy
  have hd : (l == m) = decide (l = m) := by rw [Bool.eq_iff_iff, decide_eq_true_iff, beq_iff_eq]
  refine ⟨_, ?_, rfl⟩
  simp only [execOp, h, hx', hy']
  simp [go_sem, hd]
/-- The first k bytes. -/
theorem st_take {x y : Operand} {l : List UInt8} {p : Int} (k : Nat) (h : o.op = .slice 45 x none (some y) none) (hx : IsB l (a.eval x) w) (hy : Is (.int .i64 p) (a.eval y) w) (e : p = (k : Int)) (hk : k ≤ l.length) : Runs (IsB (l.take k)) o a w := by
  obtain ⟨A, c, hA⟩ := Rd.form hx
  have hx' : Rd w (a.eval x) (bytesV l) := hx
  rw [hA, bytesV_len] at hx'
  rw [bytesV_len] at hA
  have hy' : a.eval y = .int .i64 p := hy
  subst e
  obtain ⟨_, hlc, _⟩ := hx'.len
  have h1 : (k : Int) ≤ (c : Int) := by omega
  have ht := hx'.take (n := k) (d := c) hk (by omega) (Nat.le_refl _)
  rw [show (bytesV l).take k = bytesV (l.take k) by simp [bytesV, List.map_take]] at ht
  cases A with
  | some ad =>
    refine ⟨_, ?_, ht⟩
    simp only [execOp, h, hA, hy', Option.map_some, Option.map_none]
    simp [go_sem, h1]
  | none =>
    refine ⟨_, ?_, ht⟩
    simp only [execOp, h, hA, hy', Option.map_some, Option.map_none]
    simp [go_sem, h1]
/-- What stands behind the first k bytes. -/
theorem st_drop {x y : Operand} {l : List UInt8} {p : Int} (k : Nat) (h : o.op = .slice 45 x (some y) none none) (hx : IsB l (a.eval x) w) (hy : Is (.int .i64 p) (a.eval y) w) (e : p = (k : Int)) (hk : k ≤ l.length) : Runs (IsB (l.drop k)) o a w := by
  obtain ⟨A, c, hA⟩ := Rd.form hx
  have hx' : Rd w (a.eval x) (bytesV l) := hx
  rw [hA, bytesV_len] at hx'
  rw [bytesV_len] at hA
  have hy' : a.eval y = .int .i64 p := hy
  subst e
  obtain ⟨_, hlc, hcm⟩ := hx'.len
  have h1 : (k : Int) ≤ (l.length : Int) := by omega
  have ht := hx'.drop (n := k) hk
  rw [show (bytesV l).drop k = bytesV (l.drop k) by simp [bytesV, List.map_drop]] at ht
  by_cases hc : c = k
  · have hl : l.length = k := by omega
    have he : l.drop k = [] := List.drop_of_length_le (by omega)
    rw [he]
    cases A with
    | some ad =>
      refine ⟨.slice (some ad) 0 0, ?_, Rd.empty _ _ _ (Nat.zero_le _)⟩
      simp only [execOp, h, hA, hy', Option.map_some, Option.map_none]
      simp [go_sem, hc, hl]
    | none =>
      refine ⟨.slice none 0 0, ?_, Rd.empty _ _ _ (Nat.zero_le _)⟩
      simp only [execOp, h, hA, hy', Option.map_some, Option.map_none]
      simp [go_sem, hc, hl]
  · cases A with
    | some ad =>
      refine ⟨_, ?_, ht⟩
      simp only [execOp, h, hA, hy', Option.map_some, Option.map_none]
      simp [go_sem, h1, hc]
    | none =>
      refine ⟨_, ?_, ht⟩
      simp only [execOp, h, hA, hy', Option.map_some, Option.map_none]
      simp [go_sem, h1]
/-- A whole array out of its block, and as a slice. -/
theorem st_load {x : Operand} {ty : TypeId} {n : Nat} {e : TypeId} (ho : o.op = .load ty x) (g : Nat) (t : TypeId) (cs : List Value) (hv : a.eval x = .pointer (some ⟨g, 0, none⟩)) (hr : Row w g t cs)
    (hu : Tryd.prog.underlying ty = some (.array n e)) (hi : (Tryd.prog.info? ty).map (·.size) = some cs.length) : Runs (Is (.agg cs.toArray)) o a w := ⟨_, ex_load_row ho g t cs _ hv hr hu rfl hi, rfl⟩
theorem st_all {x : Operand} {ty : TypeId} (n : Nat) (ho : o.op = .slice ty x none none none) (g : Nat) (t : TypeId) (l : List UInt8) (hv : a.eval x = .pointer (some ⟨g, 0, none⟩)) (hr : Row w g t (bytesV l)) (hl : l.length = n) (hn : n ≤ 1000)
    (hu : Tryd.prog.underlying ty = some (.array n 5)) : Runs (IsB l) o a w := by
  refine ⟨.slice (some ⟨g, 0, none⟩) n n, ?_, hr.rds n n (by rw [bytesV_len, hl]) (Nat.le_refl _) (by unfold maxLen; omega)⟩
  obtain ⟨i, hi⟩ : ∃ i, (sizeOf 5).run Tryd.prog w = .ok i w := ⟨_, rfl⟩
  simp only [execOp, ho, hv, Option.map_none]
  simp [Instr.sliceAt, go_sem, run_underlying hu, hi]
end
end Go.Proofs.YtiakkfcjdmecdaaDoor
