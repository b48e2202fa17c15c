/-
  Operations of the laws that go block by block, over this program.
-/
import Derived.Test.YtmhcfbfdbminnaaDoorDigOne
namespace Go.Proofs.YtmhcfbfdbminnaaDoor
open Go.RowKit

section
variable {o : Oper} {a : Act} {w : World}
theorem ex_s2a {x : Operand} {ad : Addr} {n c : Nat} (h : o.op = .sliceToArrayPointer 34 x) (hx : a.eval x = .slice (some ad) n c) (hn : 64 ≤ n) : (execOp a.eval o).run Tryd.prog w = .ok (.value (.pointer (some ad))) w := by
  have h1 : ¬ n < 64 := by omega
  simp only [execOp, h, hx]
  simp [go_sem, Instr.arrayAt, h1]
theorem ex_load_block {x : Operand} {ad : Addr} {b : List UInt8} (h : o.op = .load 34 x) (hx : a.eval x = .pointer (some ad)) (hb : b.length = 64) (hc : ∀ j u, (bytesV b)[j]? = some u → w.cell? (ad.add j) = some u) :
    (execOp a.eval o).run Tryd.prog w = .ok (.value (.agg (bytesV b).toArray)) w := by
  have hl := run_loadCells_list (P := Tryd.prog) w ad (bytesV b) hc
  rw [bytesV_len, hb] at hl
  have hi : (sizeOf 34).run Tryd.prog w = .ok 64 w := by kernel_rfl
  have ha : (isAgg 34).run Tryd.prog w = .ok true w := by kernel_rfl
  have hrun : (Instr.loadAt 34 (.pointer (some ad))).run Tryd.prog w = .ok (.agg (bytesV b).toArray) w := by
    simp only [Instr.loadAt, Instr.sureAddr, loadVar, Sem.run_bind, Sem.run_pure, Result.andThen_ok, ha, if_true, hi, hl]
  unfold execOp
  simp only [h, hx, Sem.run_bind, hrun, Result.andThen_ok, Sem.run_pure]
theorem ex_slice2 {x y z : Operand} {ad : Addr} {n c i j : Nat} (h : o.op = .slice 22 x (some y) (some z) none) (hx : a.eval x = .slice (some ad) n c) (hy : a.eval y = .int .i64 (i : Int)) (hz : a.eval z = .int .i64 (j : Int)) (hij : i < j) (hjc : j ≤ c) :
    (execOp a.eval o).run Tryd.prog w = .ok (.value (.slice (some (ad.add i)) (j - i) (c - i))) w := by
  have h1 : (i : Int) ≤ (j : Int) := by omega
  have h2 : (j : Int) ≤ (c : Int) := by omega
  have h3 : ¬ c = i := by omega
  simp only [execOp, h, hx, hy, hz, Option.map_some, Option.map_none]
  simp [go_sem, h1, h2, h3]
end
/-- The bytes of a state, one by one. -/
theorem told_at (S : List W32) (i k : Nat) (hi : i < S.length) (hk : k < 4) : (told S)[4 * i + k]? = some (UInt8.ofNat ((S.getD i 0).toNat / 2 ^ (24 - 8 * k))) := by
  have h1 : told S = told (S.take i) ++ (told1 (S.getD i 0) ++ told (S.drop (i + 1))) := by
    have e : S = S.take i ++ (S.getD i 0 :: S.drop (i + 1)) := by
      have h := List.drop_eq_getElem_cons hi
      have hg : S.getD i 0 = S[i] := by simp [List.getElem?_eq_getElem hi]
      rw [hg, ← h, List.take_append_drop]
    have e2 : told S = told (S.take i ++ (S.getD i 0 :: S.drop (i + 1))) := congrArg told e
    rw [e2]
    unfold told
    rw [List.flatMap_append, List.flatMap_cons]
  have hl : (told (S.take i)).length = 4 * i := by rw [told_len, List.length_take]; omega
  rw [h1, List.getElem?_append_right (by omega), hl, show 4 * i + k - 4 * i = k by omega]
  generalize S.getD i 0 = x
  match k, hk with
  | 0, _ => simp [told1]
  | 1, _ => simp [told1]
  | 2, _ => simp [told1]
  | 3, _ => simp [told1]
end Go.Proofs.YtmhcfbfdbminnaaDoor
