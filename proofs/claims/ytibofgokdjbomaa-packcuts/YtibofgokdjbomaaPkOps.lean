/-
  Steps of regions that draw, over pack's model.
-/
import Derived.Test.YtibofgokdjbomaaPkPass
import Derived.Test.YtibofgokdjbomaaStepOps
namespace Go.Proofs.Ytibofgokdjbomaa
set_option maxRecDepth 1000000
open Go.RowKit

section
variable {o : Oper} {a : Act} {w : World}
def offM : Nat → Nat
  | 0 => 0
  | 1 => 2
  | 2 => 2050
  | 3 => 2306
  | 4 => 2322
  | 5 => 2323
  | _ => 35091
theorem st_fieldM {x : Operand} {g : Nat} (k : Nat) (hk : k < 7) (h : o.op = .fieldAddr 87 x k) (hx : Is (.pointer (some ⟨g, 0, none⟩)) (a.eval x) w) : Runs (Is (.pointer (some ⟨g, offM k, none⟩))) o a w := by
  have hx' : a.eval x = .pointer (some ⟨g, 0, none⟩) := hx
  refine ⟨_, ?_, rfl⟩
  simp only [execOp, h, hx']
  rcases k with _ | _ | _ | _ | _ | _ | _ | k
  all_goals first | (exfalso; omega) | kernel_rfl
theorem st_idxK {x y : Operand} {g j : Nat} (h : o.op = .indexAddr 81 x y) (hx : Is (.pointer (some ⟨g, 0, none⟩)) (a.eval x) w) (hy : Is (.int .i64 (j : Int)) (a.eval y) w) (hj : j < 2) : Runs (Is (.pointer (some ⟨g, j, none⟩))) o a w := by
  have hx' : a.eval x = .pointer (some ⟨g, 0, none⟩) := hx
  have hy' : a.eval y = .int .i64 (j : Int) := hy
  have hs : (sizeOf 62).run Try.prog w = .ok 1 w := by kernel_rfl
  refine ⟨_, ?_, rfl⟩
  simp only [execOp, h, hx', hy']
  simp [go_sem, hs, Addr.add]
  rw [if_pos (by omega)]
  split
  · subst_vars; rfl
  · rfl
theorem st_idxL {x y : Operand} {g j : Nat} (h : o.op = .indexAddr 83 x y) (hx : Is (.pointer (some ⟨g, 2, none⟩)) (a.eval x) w) (hy : Is (.int .u8 (j : Int)) (a.eval y) w) (hj : j < 8) : Runs (Is (.pointer (some ⟨g, 2 + 256 * j, none⟩))) o a w := by
  have hx' : a.eval x = .pointer (some ⟨g, 2, none⟩) := hx
  have hy' : a.eval y = .int .u8 (j : Int) := hy
  have hs : (sizeOf 82).run Try.prog w = .ok 256 w := by kernel_rfl
  refine ⟨_, ?_, rfl⟩
  simp only [execOp, h, hx', hy']
  simp [go_sem, hs, Addr.add]
  rw [if_pos (by omega), Nat.mul_comm 256 j]
  split
  · rename_i e
    rw [e]
  · rfl
theorem st_sliceC {x : Operand} {g j : Nat} (h : o.op = .slice 82 x none none none) (hx : Is (.pointer (some ⟨g, j, none⟩)) (a.eval x) w) : Runs (Is (.slice (some ⟨g, j, none⟩) 256 256)) o a w := by
  have hx' : a.eval x = .pointer (some ⟨g, j, none⟩) := hx
  refine ⟨_, ?_, rfl⟩
  simp only [execOp, h, hx']
  simp [go_sem]
theorem st_sliceK {x : Operand} {g j : Nat} (h : o.op = .slice 84 x none none none) (hx : Is (.pointer (some ⟨g, j, none⟩)) (a.eval x) w) : Runs (Is (.slice (some ⟨g, j, none⟩) 16 16)) o a w := by
  have hx' : a.eval x = .pointer (some ⟨g, j, none⟩) := hx
  refine ⟨_, ?_, rfl⟩
  simp only [execOp, h, hx']
  simp [go_sem]
theorem st_shr5 {x : Operand} {n : Nat} (h : o.op = .binOp .shr 5 x (.const (.int .u64 5)) 108) (hx : Is (.int .u8 (n : Int)) (a.eval x) w) (_ : n < 256) : Runs (Is (.int .u8 ((n / 32 : Nat) : Int))) o a w := by
  have hx' : a.eval x = .int .u8 (n : Int) := hx
  have hc : a.eval (.const (.int .u64 5)) = .int .u64 5 := rfl
  refine ⟨_, ?_, rfl⟩
  simp only [execOp, h, hx', hc]
  simp [go_sem]
end
end Go.Proofs.Ytibofgokdjbomaa
