/-
  Operations on numbers and bytes at the steps of a region that draws, for layer 5's own words of the document.
-/
import Derived.Test.YtmhpnddelebjdaaRcQuarter
import Derived.Test.YtmhpnddelebjdaaReg2Base
namespace Go.Proofs.Ytmhpnddelebjdaa
open Go.RowKit

theorem GrownX.none2 {w w' : World} (h : GrownX [] w.drew w') : w.grownBy w' Option.none := ⟨h.os, h.tape, h.output, h.size, fun k hk _ => h.block k hk (by simp)⟩
section
variable {P : Program} {ops : Array Oper} {Q : Exit → Act → World → Prop} {n : Nat} {eff : List (Nat × Nat)} {w0 : World} {a0 : Act} {tail : List Oper}
/-- An operation that makes memory. -/
theorem Walk.makes {env : List (Value → World → Prop)} {k : Nat} {o : Oper} {rest : List Oper} {G : Value → World → Prop} (hl : StaysBut eff k G) (ho : ops[k]? = some o) (hdst : o.dst.isSome = true)
    (hs : ∀ a w, Mid2 ops n eff w0 a0 a w → Ahead eff k w0 w → Deps2 ops env.reverse o a w → Wanted ops o a ∧ ∃ v w', (execOp a.eval o).run P w = .ok (.value v) w' ∧ w.grownBy w' (rowAt eff k) ∧ G v w')
    (hc : Walk P ops Q n eff w0 a0 tail (k + 1) rest (G :: env)) : Walk P ops Q n eff w0 a0 tail k (o :: rest) env := by
  refine ⟨G, hl, fun a w hm ha hd => ?_, hc⟩
  obtain ⟨hw, v, w', hr, hg, hG⟩ := hs a w hm ha hd
  unfold wpOp
  rw [ho]
  simp only
  rw [if_pos (show Region.wanted o (yielded ops a.tmps) = true from hw)]
  refine .inl ?_
  unfold Oper.wp
  rw [hr, Oper.upon_value]
  exact ⟨v, rfl, hg, hG, fun h => by rw [h] at hdst; cases hdst⟩
end
theorem xor8' (a b : UInt8) : bits .xor .u8 (a.toNat : Int) (b.toNat : Int) = ((a ^^^ b).toNat : Int) := by
  rw [u8_xor_nat _ _ (UInt8.toNat_lt a) (UInt8.toNat_lt b), UInt8.toNat_xor]
section
variable {o : Oper} {a : Act} {w : World}
theorem ex_addn {x y : Operand} {p q : Nat} (r : Nat) (h : o.op = .binOp .add 3 x y 3) (hx : Is (.int .i64 (p : Int)) (a.eval x) w) (hy : Is (.int .i64 (q : Int)) (a.eval y) w) (hr : p + q = r) (hb : r ≤ 1000000000000000) : (execOp a.eval o).run Try.prog w = .ok (.value (.int .i64 (r : Int))) w := by
  have hx' : a.eval x = .int .i64 (p : Int) := hx
  have hy' : a.eval y = .int .i64 (q : Int) := hy
  have hw : IntKind.i64.wrap ((p : Int) + (q : Int)) = (r : Int) := by rw [IntKind.wrap_i64]; omega
  simp only [execOp, h, hx', hy']
  simp [go_sem, hw]
theorem ex_addc {x : Operand} {k : Nat} (r d : Nat) {e : Int} (he : e = (d : Int)) (h : o.op = .binOp .add 3 x (.const (.int .i64 e)) 3) (hx : Is (.int .i64 (k : Int)) (a.eval x) w) (hr : k + d = r) (hk : r ≤ 1000000) : (execOp a.eval o).run Try.prog w = .ok (.value (.int .i64 (r : Int))) w :=
  ex_addn r h hx (by rw [he]; rfl) hr (by omega)
theorem ex_mulc {x : Operand} {k : Nat} (r d : Nat) {e : Int} (he : e = (d : Int)) (h : o.op = .binOp .mul 3 x (.const (.int .i64 e)) 3) (hx : Is (.int .i64 (k : Int)) (a.eval x) w) (hr : k * d = r) (hb : r ≤ 1000000000000000) : (execOp a.eval o).run Try.prog w = .ok (.value (.int .i64 (r : Int))) w := by
  have hx' : a.eval x = .int .i64 (k : Int) := hx
  have hc : a.eval (.const (.int .i64 e)) = .int .i64 e := rfl
  have hw : IntKind.i64.wrap ((k : Int) * e) = (r : Int) := by
    rw [IntKind.wrap_i64, he, ← Int.natCast_mul, hr]; omega
  simp only [execOp, h, hx', hc]
  simp [go_sem, hw]
theorem ex_remc {x : Operand} {k : Nat} (r d : Nat) {e : Int} (he : e = (d : Int)) (hd : d ≠ 0) (h : o.op = .binOp .rem 3 x (.const (.int .i64 e)) 3) (hx : Is (.int .i64 (k : Int)) (a.eval x) w) (hr : k % d = r) : (execOp a.eval o).run Try.prog w = .ok (.value (.int .i64 (r : Int))) w := by
  have hx' : a.eval x = .int .i64 (k : Int) := hx
  have hc : a.eval (.const (.int .i64 e)) = .int .i64 e := rfl
  have hm : Int.tmod (k : Int) e = (r : Int) := by rw [he, ← Int.ofNat_tmod, hr]
  have h0 : ¬ e = 0 := by rw [he]; omega
  simp only [execOp, h, hx', hc]
  simp [go_sem, h0, hm]
theorem ex_idxI {x y : Operand} {ad : Addr} {n c k : Nat} (h : o.op = .indexAddr 25 x y) (hx : Is (.slice (some ad) n c) (a.eval x) w) (hy : Is (.int .i64 (k : Int)) (a.eval y) w) (hk : k < n) : (execOp a.eval o).run Try.prog w = .ok (.value (.pointer (some (ad.add k)))) w := by
  have hx' : a.eval x = .slice (some ad) n c := hx
  have hy' : a.eval y = .int .i64 (k : Int) := hy
  have hk' : (k : Int) < (n : Int) := by omega
  simp only [execOp, h, hx', hy']
  simp [go_sem, hk']
theorem ex_loadI {x : Operand} {ad : Addr} {z : Int} (h : o.op = .load 3 x) (hx : Is (.pointer (some ad)) (a.eval x) w) (hc : w.cell? ad = some (.int .i64 z)) : (execOp a.eval o).run Try.prog w = .ok (.value (.int .i64 z)) w := by
  have hx' : a.eval x = .pointer (some ad) := hx
  simp only [execOp, h, hx']
  simp [go_sem, hc]
theorem ex_idxB {x y : Operand} {ad : Addr} {n c k : Nat} (h : o.op = .indexAddr 33 x y) (hx : Is (.slice (some ad) n c) (a.eval x) w) (hy : Is (.int .i64 (k : Int)) (a.eval y) w) (hk : k < n) : (execOp a.eval o).run Try.prog w = .ok (.value (.pointer (some (ad.add k)))) w := by
  have hx' : a.eval x = .slice (some ad) n c := hx
  have hy' : a.eval y = .int .i64 (k : Int) := hy
  have hk' : (k : Int) < (n : Int) := by omega
  simp only [execOp, h, hx', hy']
  simp [go_sem, hk']
theorem ex_loadB {x : Operand} {ad : Addr} {z : Int} (h : o.op = .load 5 x) (hx : Is (.pointer (some ad)) (a.eval x) w) (hc : w.cell? ad = some (.int .u8 z)) : (execOp a.eval o).run Try.prog w = .ok (.value (.int .u8 z)) w := by
  have hx' : a.eval x = .pointer (some ad) := hx
  simp only [execOp, h, hx']
  simp [go_sem, hc]
theorem ex_convB {x : Operand} {z : Nat} (h : o.op = .convert 5 3 x) (hx : Is (.int .u8 (z : Int)) (a.eval x) w) (hz : z < 256) : (execOp a.eval o).run Try.prog w = .ok (.value (.int .i64 (z : Int))) w := by
  have hx' : a.eval x = .int .u8 (z : Int) := hx
  have hw : IntKind.i64.wrap (z : Int) = (z : Int) := by rw [IntKind.wrap_i64]; omega
  simp only [execOp, h, hx']
  simp [go_sem, hw]
theorem ex_xorB {x y : Operand} {p q : UInt8} (h : o.op = .binOp .xor 5 x y 5) (hx : Is (.int .u8 (p.toNat : Int)) (a.eval x) w) (hy : Is (.int .u8 (q.toNat : Int)) (a.eval y) w) : (execOp a.eval o).run Try.prog w = .ok (.value (.int .u8 ((p ^^^ q).toNat : Int))) w := by
  have hx' : a.eval x = .int .u8 (p.toNat : Int) := hx
  have hy' : a.eval y = .int .u8 (q.toNat : Int) := hy
  have hw := xor8' p q
  simp only [execOp, h, hx', hy']
  rw [← hw]
  generalize (p.toNat : Int) = u
  generalize (q.toNat : Int) = v
  simp [go_sem]
theorem ex_build1 {x : Operand} {z : Nat} (h : o.op = .buildSlice 25 1 #[(0, x)]) (hx : Is (.int .i64 (z : Int)) (a.eval x) w) : (execOp a.eval o).run Try.prog w = .ok (.value (.slice (some ⟨w.heap.size, 0, none⟩) 1 1)) (w.alloc (.cells #[.int .i64 (z : Int)] 3)) := by
  have hx' : a.eval x = .int .i64 (z : Int) := hx
  simp only [execOp, h, hx', List.map_toArray, List.map_cons, List.map_nil]
  go_simp
  try rfl
theorem ex_build1B {x : Operand} {z : Int} (h : o.op = .buildSlice 33 1 #[(0, x)]) (hx : Is (.int .u8 z) (a.eval x) w) : (execOp a.eval o).run Try.prog w = .ok (.value (.slice (some ⟨w.heap.size, 0, none⟩) 1 1)) (w.alloc (.cells #[.int .u8 z] 5)) := by
  have hx' : a.eval x = .int .u8 z := hx
  simp only [execOp, h, hx', List.map_toArray, List.map_cons, List.map_nil]
  go_simp
  try rfl
end
end Go.Proofs.Ytmhpnddelebjdaa
