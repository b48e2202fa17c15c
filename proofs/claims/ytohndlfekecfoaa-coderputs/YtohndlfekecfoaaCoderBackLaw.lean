/-
  The law CoderBack, walked.
-/
import Derived.Test.YtohndlfekecfoaaCodNil
import Derived.Test.YtohndlfekecfoaaCodMay
import Derived.Test.YtohndlfekecfoaaCodTri
import Derived.Test.YtohndlfekecfoaaReg3
import Derived.Test.YtohndlfekecfoaaStepOps
namespace Go.Proofs.Ytohndlfekecfoaa
set_option maxRecDepth 1000000
open Go.RowKit

section
variable {o : Oper} {a : Act} {w : World}
theorem st_fieldD1 {x : Operand} {g : Nat} (h : o.op = .fieldAddr 35 x 1) (hx : Is (.pointer (some ⟨g, 0, none⟩)) (a.eval x) w) : Runs (Is (.pointer (some ⟨g, 1, none⟩))) o a w := by
  have hx' : a.eval x = .pointer (some ⟨g, 0, none⟩) := hx
  refine ⟨_, ?_, rfl⟩
  simp only [execOp, h, hx']
  kernel_rfl
theorem st_fieldD2 {x : Operand} {g : Nat} (h : o.op = .fieldAddr 35 x 2) (hx : Is (.pointer (some ⟨g, 0, none⟩)) (a.eval x) w) : Runs (Is (.pointer (some ⟨g, 2, none⟩))) o a w := by
  have hx' : a.eval x = .pointer (some ⟨g, 0, none⟩) := hx
  refine ⟨_, ?_, rfl⟩
  simp only [execOp, h, hx']
  kernel_rfl
theorem st_fieldD3 {x : Operand} {g : Nat} (h : o.op = .fieldAddr 35 x 3) (hx : Is (.pointer (some ⟨g, 0, none⟩)) (a.eval x) w) : Runs (Is (.pointer (some ⟨g, 3, none⟩))) o a w := by
  have hx' : a.eval x = .pointer (some ⟨g, 0, none⟩) := hx
  refine ⟨_, ?_, rfl⟩
  simp only [execOp, h, hx']
  kernel_rfl
theorem st_max0 {x : Operand} {q r : Int} (h : o.op = .call { callee := .builtin .max, args := #[x, .const (.int .i64 0)], argTypes := #[3, 3] }) (hx : Is (.int .i64 q) (a.eval x) w) (e : max q 0 = r) : Runs (Is (.int .i64 r)) o a w := by
  subst e
  exact ⟨_, ex_max0 h hx, rfl⟩
theorem st_neF {x y : Operand} {p q : Int} (h : o.op = .binOp .neq 3 x y 3) (hx : Is (.int .i64 p) (a.eval x) w) (hy : Is (.int .i64 q) (a.eval y) w) (e : p = q) : Runs (Is (.bool false)) o a w := by
  have hx' : a.eval x = .int .i64 p := hx
  have hy' : a.eval y = .int .i64 q := hy
  subst e
  refine ⟨_, ?_, rfl⟩
  simp only [execOp, h, hx', hy']
  simp [go_sem]
/-- Any number. -/
def IsI (v : Value) (_ : World) : Prop := ∃ q : Int, v = .int .i64 q
theorem st_shlX {y : Operand} {q : Int} (h : o.op = .binOp .shl 3 (.const (.int .i64 1)) y 3) (hy : Is (.int .i64 q) (a.eval y) w) (hq : 0 ≤ q) : Runs IsI o a w := by
  have hy' : a.eval y = .int .i64 q := hy
  have hc : a.eval (.const (.int .i64 1)) = .int .i64 1 := rfl
  have hn : ¬ q < 0 := by omega
  have hsh : Op.shift .shl .i64 1 .i64 q = pure (.int .i64 (IntKind.i64.wrap (1 * 2 ^ min q.toNat 64))) := by
    unfold Op.shift
    rw [if_neg hn]
    rfl
  refine ⟨.int .i64 (IntKind.i64.wrap (1 * 2 ^ min q.toNat 64)), ?_, _, rfl⟩
  simp only [execOp, h, hy', hc]
  simp [go_sem, hsh]
theorem st_shlP {y : Operand} {B : Nat} (h : o.op = .binOp .shl 3 (.const (.int .i64 1)) y 3) (hy : Is (.int .i64 (B : Int)) (a.eval y) w) (hB : B ≤ 62) : Runs (Is (.int .i64 (2 ^ B))) o a w := by
  have hy' : a.eval y = .int .i64 (B : Int) := hy
  have hc : a.eval (.const (.int .i64 1)) = .int .i64 1 := rfl
  have hw : IntKind.i64.wrap ((2 : Int) ^ B) = 2 ^ B := by rw [wrap_pow B hB]; norm_cast
  refine ⟨_, ?_, rfl⟩
  simp only [execOp, h, hy', hc]
  simp [go_sem, hw]
theorem st_subX {x : Operand} (h : o.op = .binOp .sub 3 x (.const (.int .i64 1)) 3) (hx : IsI (a.eval x) w) : Runs IsI o a w := by
  obtain ⟨q, hx'⟩ := hx
  have hc : a.eval (.const (.int .i64 1)) = .int .i64 1 := rfl
  refine ⟨.int .i64 (IntKind.i64.wrap (q - 1)), ?_, _, rfl⟩
  simp only [execOp, h, hx', hc]
  simp [go_sem]
theorem st_subP {x : Operand} {B : Nat} (h : o.op = .binOp .sub 3 x (.const (.int .i64 1)) 3) (hx : Is (.int .i64 (2 ^ B)) (a.eval x) w) (hB : B ≤ 62) : Runs (Is (.int .i64 (2 ^ B - 1))) o a w := by
  have hx' : a.eval x = .int .i64 (2 ^ B) := hx
  have hc : a.eval (.const (.int .i64 1)) = .int .i64 1 := rfl
  have hw : IntKind.i64.wrap ((2 : Int) ^ B - 1) = 2 ^ B - 1 := by
    have hp : (2 : Int) ^ B ≤ 2 ^ 62 := by exact_mod_cast (Nat.pow_le_pow_right (by decide) hB : (2 : Nat) ^ B ≤ 2 ^ 62)
    have h0 : (0 : Int) < 2 ^ B := Int.pow_pos (by decide)
    rw [IntKind.wrap_i64]
    generalize (2 : Int) ^ B = m at *
    omega
  refine ⟨_, ?_, rfl⟩
  simp only [execOp, h, hx', hc]
  simp [go_sem, hw]
theorem st_andX {x y : Operand} {n : Int} (h : o.op = .binOp .and 3 x y 3) (hx : Is (.int .i64 n) (a.eval x) w) (hy : IsI (a.eval y) w) : Runs IsI o a w := by
  have hx' : a.eval x = .int .i64 n := hx
  obtain ⟨q, hy'⟩ := hy
  refine ⟨.int .i64 (bits .and .i64 n q), ?_, _, rfl⟩
  simp only [execOp, h, hx', hy']
  simp [go_sem]
theorem st_andP {x y : Operand} {n : Int} {B : Nat} (h : o.op = .binOp .and 3 x y 3) (hx : Is (.int .i64 n) (a.eval x) w) (hy : Is (.int .i64 (2 ^ B - 1)) (a.eval y) w) (hB : B ≤ 62) : Runs (Is (.int .i64 ((lowN n B : Nat) : Int))) o a w := by
  have hx' : a.eval x = .int .i64 n := hx
  have hy' : a.eval y = .int .i64 (2 ^ B - 1) := hy
  have hw : bits .and .i64 n (2 ^ B - 1) = ((lowN n B : Nat) : Int) := by rw [i64_mask n B hB, lowN_cast]
  refine ⟨_, ?_, rfl⟩
  simp only [execOp, h, hx', hy']
  simp [go_sem, hw]
theorem st_idxCh {x y : Operand} {g n c j : Nat} (h : o.op = .indexAddr 26 x y) (hx : Is (.slice (some ⟨g, 0, none⟩) n c) (a.eval x) w) (hy : Is (.int .i64 (j : Int)) (a.eval y) w) (hj : j < n) : Runs (Is (.pointer (some ⟨g, j, none⟩))) o a w := by
  have hx' : a.eval x = .slice (some ⟨g, 0, none⟩) n c := hx
  have hy' : a.eval y = .int .i64 (j : Int) := hy
  have hs : (sizeOf 40).run Try.prog w = .ok 1 w := by kernel_rfl
  refine ⟨_, ?_, rfl⟩
  simp only [execOp, h, hx', hy']
  simp [go_sem, hj, hs, Addr.add]
  omega
end
theorem stays3_i {eff : Nat → List Nat} (j : Nat) : StaysBut3 eff j IsI := fun _ _ _ _ _ h _ => h

end Go.Proofs.Ytohndlfekecfoaa
