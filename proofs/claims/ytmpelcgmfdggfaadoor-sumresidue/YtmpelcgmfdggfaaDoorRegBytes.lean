/-
  Steps of regions that draw: words of 32 bits, bytes, slices that are built or made.
-/
import Derived.Test.YtmpelcgmfdggfaaDoorRegBase
import Derived.Test.YtmpelcgmfdggfaaDoorSumAwake
import Derived.Test.YtmpelcgmfdggfaaDoorAppBytes
namespace Go.Proofs.YtmpelcgmfdggfaaDoor
open Go.RowKit

/-- A slice of slices that read as these bytes each. -/
def IsP (ls : List (List UInt8)) (v : Value) (w : World) : Prop := ∃ vs, Rd w v vs ∧ Parts w vs ls
theorem Parts.grown {w w' : World} {vs : List Value} {ls : List (List UInt8)} (h : Parts w vs ls) (hg : w.grownBy w' none) : Parts w' vs ls :=
  ⟨h.1, fun i u m h1 h2 => (h.2 i u m h1 h2).grown0 hg⟩
theorem lasts_parts (ls : List (List UInt8)) : Lasts none (IsP ls) := fun _ _ _ h hg => by
  obtain ⟨vs, h1, h2⟩ := h
  exact ⟨vs, h1.grown0 hg, h2.grown hg⟩

section
variable {o : Oper} {a : Act} {w : World}
theorem ex_shr {x : Operand} {N : Nat} {k : Nat} (hk : k ≤ 32) (h : o.op = .binOp .shr 24 x (.const (.int .u64 (k : Int))) 34) (hx : Is (.int .u32 (N : Int)) (a.eval x) w) :
    (execOp a.eval o).run Tryd.prog w = .ok (.value (.int .u32 ((N / 2 ^ k : Nat) : Int))) w := by
  have hx' : a.eval x = .int .u32 (N : Int) := hx
  have hc : a.eval (.const (.int .u64 (k : Int))) = .int .u64 (k : Int) := rfl
  simp only [execOp, h, hx', hc]
  simp [go_sem]
theorem ex_byte {x : Operand} {N : Nat} (h : o.op = .convert 24 5 x) (hx : Is (.int .u32 (N : Int)) (a.eval x) w) :
    (execOp a.eval o).run Tryd.prog w = .ok (.value (byteV (UInt8.ofNat N))) w := by
  have hx' : a.eval x = .int .u32 (N : Int) := hx
  simp only [execOp, h, hx']
  simp [go_sem, byteV, IntKind.wrap_u8']
theorem ex_eq32 {x y : Operand} {N : BitVec 32} (h : o.op = .binOp .eql 24 x y 24) (hx : Is (.int .u32 (N.toNat : Int)) (a.eval x) w) (hy : Is (.int .u32 (N.toNat : Int)) (a.eval y) w) :
    (execOp a.eval o).run Tryd.prog w = .ok (.value (.bool true)) w := by
  have hx' : a.eval x = .int .u32 (N.toNat : Int) := hx
  have hy' : a.eval y = .int .u32 (N.toNat : Int) := hy
  simp only [execOp, h, hx', hy']
  simp [go_sem]
theorem ex_build4 {x0 x1 x2 x3 : Operand} {b0 b1 b2 b3 : UInt8} (h : o.op = .buildSlice 22 4 #[(0, x0), (1, x1), (2, x2), (3, x3)])
    (h0 : Is (byteV b0) (a.eval x0) w) (h1 : Is (byteV b1) (a.eval x1) w) (h2 : Is (byteV b2) (a.eval x2) w) (h3 : Is (byteV b3) (a.eval x3) w) :
    (execOp a.eval o).run Tryd.prog w = .ok (.value (.slice (some ⟨w.heap.size, 0, none⟩) 4 4)) (w.alloc (.cells #[byteV b0, byteV b1, byteV b2, byteV b3] 5)) := by
  have h0' : a.eval x0 = .int .u8 (b0.toNat : Int) := h0
  have h1' : a.eval x1 = .int .u8 (b1.toNat : Int) := h1
  have h2' : a.eval x2 = .int .u8 (b2.toNat : Int) := h2
  have h3' : a.eval x3 = .int .u8 (b3.toNat : Int) := h3
  simp only [execOp, h, h0', h1', h2', h3', List.map_toArray, List.map_cons, List.map_nil]
  go_simp
  rfl
theorem ex_build2 {x0 x1 : Operand} {v0 v1 : Value} {l0 l1 : List UInt8} (h : o.op = .buildSlice 35 2 #[(0, x0), (1, x1)])
    (h0 : IsB l0 (a.eval x0) w) (h1 : IsB l1 (a.eval x1) w) (e0 : a.eval x0 = v0) (e1 : a.eval x1 = v1) :
    (execOp a.eval o).run Tryd.prog w = .ok (.value (.slice (some ⟨w.heap.size, 0, none⟩) 2 2)) (w.alloc (.cells #[v0, v1] 22)) := by
  obtain ⟨A0, c0, h0'⟩ := Rd.form h0
  obtain ⟨A1, c1, h1'⟩ := Rd.form h1
  rw [← e0, ← e1, h0', h1']
  simp only [execOp, h, h0', h1', List.map_toArray, List.map_cons, List.map_nil]
  go_simp
theorem ex_make {n : Nat} {x y : Operand} (h : o.op = .makeSlice 22 x y) (hx : a.eval x = .int .i64 (n : Int)) (hy : a.eval y = .int .i64 (n : Int)) (hn : n ≤ 1000000000000) :
    ∃ w', (execOp a.eval o).run Tryd.prog w = .ok (.value (.slice (some ⟨w.heap.size, 0, none⟩) n n)) w' ∧ w.grownBy w' none ∧ IsB (List.replicate n 0) (.slice (some ⟨w.heap.size, 0, none⟩) n n) w' := by
  obtain ⟨i, hi, hz, hs1, hb⟩ := infoByte
  obtain ⟨w', hr, ho, hg⟩ := run_make_full (P := Tryd.prog) w w.heap.size 22 5 i (.int .u8 0) 1 Tryd.underlying22 hi hz hs1 .i64 .i64 n (by rw [hb]; omega) (by simp only [maxLen]; omega) (Nat.le_refl _)
  refine ⟨w', ?_, hg, ?_⟩
  · simp only [execOp, h, hx, hy, Sem.run_bind, hr, Result.andThen_ok, Sem.run_pure]
  · have := Rd.of_own ho
    have e : (madeCells (Value.int .u8 0).cells (n * 1)).toList = bytesV (List.replicate n 0) := by
      rw [Nat.mul_one]
      have := toList_madeCells_one (.int .u8 0) n
      rw [show (Value.int IntKind.u8 0).cells = #[.int .u8 0] from rfl, this]
      simp [bytesV, byteV]
    rw [e] at this
    exact this
end
end Go.Proofs.YtmpelcgmfdggfaaDoor
