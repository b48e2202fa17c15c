/-
  Operations of layer 6's laws over this program: strings of bytes, whole arrays as slices, arrays compared and built.
-/
import Derived.Test.YtnekdjejbobmoaaPolAwake
namespace Go.Proofs.Ytnekdjejbobmoaa
open Go.RowKit

theorem foldl_push (l : List UInt8) (s : ByteArray) : (l.map fun c => (c.toNat : Int)).foldl (fun r n => r.push (UInt8.ofNat n.toNat)) s = ⟨s.data ++ l.toArray⟩ := by
  induction l generalizing s with
  | nil => simp
  | cons c l ih =>
    rw [List.map_cons, List.foldl_cons, ih]
    congr 1
    simp [ByteArray.push]
theorem run_str {w : World} {A : Option Addr} {n c : Nat} {l : List UInt8} (h : Rd w (.slice A n c) (bytesV l)) :
    (convert 23 9 (.slice A n c)).run Try.prog w = .ok (.string ⟨l.toArray⟩) w := by
  rw [run_convert_bytes_string w 23 9 5 A n c Try.underlying23 Try.underlying5 Try.underlying9]
  obtain ⟨hl, _, _⟩ := h.len
  have hc := h.cells
  have e : bytesV l = (l.map fun c => (c.toNat : Int)).map (Value.int .u8) := by simp [bytesV, byteV]
  cases l with
  | nil =>
    have hn : n = 0 := by simpa [bytesV] using hl.symm
    subst hn
    cases A with
    | none => simp [Conv.bytesToString]; rfl
    | some a =>
      have := run_bytesToString (P := Try.prog) w a 0 c [] (by simp [loadCells, loadCellsFrom])
      exact this
  | cons x l =>
    obtain ⟨ad, rfl, hcl⟩ := hc (by simp [bytesV])
    have hld := run_loadCells_list (P := Try.prog) w ad (bytesV (x :: l)) hcl
    rw [hl, e] at hld
    rw [run_bytesToString w ad n c _ hld, foldl_push]
    simp
section
variable {o : Oper} {a : Act} {w : World}
theorem ex_str {x : Operand} {l : List UInt8} (h : o.op = .convert 23 9 x) (hx : IsB l (a.eval x) w) : (execOp a.eval o).run Try.prog w = .ok (.value (.string ⟨l.toArray⟩)) w := by
  obtain ⟨A, c, hA⟩ := Rd.form hx
  have hx' : Rd w (a.eval x) (bytesV l) := hx
  rw [hA] at hx'
  have := run_str hx'
  simp [execOp, h, hA, this]
theorem ex_eqs {x y : Operand} {t : TypeId} {l : List UInt8} (h : o.op = .binOp .eql 9 x y t) (hx : Is (.string ⟨l.toArray⟩) (a.eval x) w) (hy : Is (.string ⟨l.toArray⟩) (a.eval y) w) :
    (execOp a.eval o).run Try.prog w = .ok (.value (.bool true)) w := by
  have hx' : a.eval x = .string ⟨l.toArray⟩ := hx
  have hy' : a.eval y = .string ⟨l.toArray⟩ := hy
  simp only [execOp, h, hx', hy']
  simp [go_sem]
theorem ex_eq16 {x y : Operand} {t : TypeId} {l : List UInt8} (h : o.op = .binOp .eql 25 x y t) (hl : l.length = 16) (hx : Is (.agg (bytesV l).toArray) (a.eval x) w) (hy : Is (.agg (bytesV l).toArray) (a.eval y) w) :
    (execOp a.eval o).run Try.prog w = .ok (.value (.bool true)) w := by
  have hx' : a.eval x = .agg (bytesV l).toArray := hx
  have hy' : a.eval y = .agg (bytesV l).toArray := hy
  have he := eq_self16 l hl w
  simp only [execOp, h, hx', hy']
  simp [go_sem, he]
theorem ex_eq17 {x y : Operand} {t : TypeId} {l : List UInt8} (h : o.op = .binOp .eql 31 x y t) (hl : l.length = 17) (hx : Is (.agg (bytesV l).toArray) (a.eval x) w) (hy : Is (.agg (bytesV l).toArray) (a.eval y) w) :
    (execOp a.eval o).run Try.prog w = .ok (.value (.bool true)) w := by
  have hx' : a.eval x = .agg (bytesV l).toArray := hx
  have hy' : a.eval y = .agg (bytesV l).toArray := hy
  have he := eq_self17 l hl w
  simp only [execOp, h, hx', hy']
  simp [go_sem, he]
theorem ex_all32 {x : Operand} {g : Nat} (h : o.op = .slice 22 x none none none) (hx : a.eval x = .pointer (some ⟨g, 0, none⟩)) : (execOp a.eval o).run Try.prog w = .ok (.value (.slice (some ⟨g, 0, none⟩) 32 32)) w := by
  simp only [execOp, h, hx]
  simp [Instr.sliceAt, go_sem, Instr.sliceBounds, Addr.add]
theorem ex_all16 {x : Operand} {g : Nat} (h : o.op = .slice 25 x none none none) (hx : a.eval x = .pointer (some ⟨g, 0, none⟩)) : (execOp a.eval o).run Try.prog w = .ok (.value (.slice (some ⟨g, 0, none⟩) 16 16)) w := by
  simp only [execOp, h, hx]
  simp [Instr.sliceAt, go_sem, Instr.sliceBounds, Addr.add]
theorem ex_from16 {x : Operand} {g : Nat} (h : o.op = .slice 22 x (some (.const (.int .i64 16))) none none) (hx : a.eval x = .pointer (some ⟨g, 0, none⟩)) : (execOp a.eval o).run Try.prog w = .ok (.value (.slice (some ⟨g, 16, none⟩) 16 16)) w := by
  simp only [execOp, h, hx]
  simp [Instr.sliceAt, go_sem, Instr.sliceBounds, Addr.add]
theorem ex_to16 {x : Operand} {g : Nat} (h : o.op = .slice 22 x none (some (.const (.int .i64 16))) none) (hx : a.eval x = .pointer (some ⟨g, 0, none⟩)) : (execOp a.eval o).run Try.prog w = .ok (.value (.slice (some ⟨g, 0, none⟩) 16 32)) w := by
  simp only [execOp, h, hx]
  simp [Instr.sliceAt, go_sem, Instr.sliceBounds, Addr.add]
end
section
variable {P : Program} {ops : Array Oper} {Q : Exit → Act → World → Prop} {n : Nat} {eff : List (Nat × Nat)} {w0 : World} {a0 : Act} {tail : List Oper}
/-- An operation that makes memory. -/
theorem Walk.make {env : List (Value → World → Prop)} {k : Nat} {o : Oper} {rest : List Oper} {G : Value → World → Prop} (hl : StaysBut eff k G) (ho : ops[k]? = some o) (hdst : o.dst.isSome = true)
    (hs : ∀ a w, Mid2 ops n eff w0 a0 a w → Ahead eff k w0 w → Deps2 ops env.reverse o a w → Wanted ops o a ∧ ∃ v w', (execOp a.eval o).run P w = .ok (.value v) w' ∧ w.grownBy w' (rowAt eff k) ∧ G v w')
    (hc : Walk P ops Q n eff w0 a0 tail (k + 1) rest (G :: env)) : Walk P ops Q n eff w0 a0 tail k (o :: rest) env := by
  refine ⟨G, hl, fun a w hm ha hd => ?_, hc⟩
  obtain ⟨hw, v, w', hr, hg, hG⟩ := hs a w hm ha hd
  unfold wpOp
  rw [ho]
  simp only
  rw [if_pos (show Region.wanted o (yielded ops a.tmps) = true from hw)]
  refine .inl ?_
  unfold Oper.wp
  rw [hr, Oper.upon_value]
  exact ⟨v, rfl, hg, hG, fun h => by rw [h] at hdst; cases hdst⟩
end
section
variable {o : Oper} {a : Act} {w : World}
theorem ex_alloc16 (h : o.op = .alloc 25) : (execOp a.eval o).run Try.prog w = .ok (.value (.pointer (some ⟨w.heap.size, 0, none⟩))) (w.alloc (.cells (noughts8 16).toArray 25)) := by
  simp only [execOp, h]
  simp [go_sem, noughts8, List.replicate]
theorem ex_alloc17 (h : o.op = .alloc 31) : (execOp a.eval o).run Try.prog w = .ok (.value (.pointer (some ⟨w.heap.size, 0, none⟩))) (w.alloc (.cells (noughts8 17).toArray 31)) := by
  simp only [execOp, h]
  simp [go_sem, noughts8, List.replicate]
end
/-- The second half of a key. -/
theorem Row.half {w : World} {g : Nat} {t : TypeId} {key : List UInt8} (h : Row w g t (bytesV key)) (hk : key.length = 32) : Rd w (.slice (some ⟨g, 16, none⟩) 16 16) (bytesV (key.drop 16)) := by
  have := (h.rds 32 32 (by rw [bytesV_len, hk]) (by decide) (by decide)).drop (n := 16) (by decide)
  rw [show (bytesV key).drop 16 = bytesV (key.drop 16) by simp [bytesV, List.map_drop]] at this
  exact this
def one32 : List UInt8 := 1 :: List.replicate 31 0
theorem tag_none (key : List UInt8) (hk : key.length = 32) : tagB key [] = key.drop 16 := by
  have h : (key.drop 16).length = 16 := by rw [List.length_drop, hk]
  have e := leB_le (key.drop 16)
  rw [h] at e
  have h0 : tagB key [] = leB 16 (0 + le (key.drop 16)) := rfl
  rw [h0, Nat.zero_add]
  exact e
theorem acc_zero (b : List UInt8) (k : Nat) : accAt 0 b k = 0 := by
  cases k with
  | zero => rfl
  | succ k => show (_ * 0) % PP = 0; simp
theorem tag_zero (key b : List UInt8) (hk : key.length = 32) (h0 : key.take 16 = List.replicate 16 0) : tagB key b = key.drop 16 := by
  have h : (key.drop 16).length = 16 := by rw [List.length_drop, hk]
  have e := leB_le (key.drop 16)
  rw [h] at e
  have hc : clampB key = List.replicate 16 0 := by rw [← clampB_take, h0]; decide
  have hz : le (clampB key) = 0 := by rw [hc]; exact le_zeros 16
  have h1 : tagB key b = leB 16 (accOf (le (clampB key)) b + le (key.drop 16)) := rfl
  rw [h1, hz]
  unfold accOf
  rw [acc_zero, Nat.zero_add]
  exact e
def oneB (b : List UInt8) : List UInt8 := b ++ 1 :: List.replicate (15 - b.length) 0
theorem tag_one (b : List UInt8) (h1 : 0 < b.length) (h15 : b.length ≤ 15) : tagB one32 b = oneB b := by
  have hc : le (clampB one32) = 1 := by decide
  have hs : le (one32.drop 16) = 0 := by decide
  have hk : (b.length + 15) / 16 = 1 := by omega
  have hch : chunk b 0 = b := by unfold chunk; rw [Nat.mul_zero, List.drop_zero, List.take_of_length_le (by omega)]
  have hl : (oneB b).length = 16 := by simp [oneB]; omega
  have hle : le (oneB b) = le b + 256 ^ b.length := by
    unfold oneB
    rw [le_app, show (1 :: List.replicate (15 - b.length) 0 : List UInt8) = [1] ++ List.replicate (15 - b.length) 0 from rfl, le_app, le_zeros]
    simp [le, byt, val]
  have hlt := le_lt (oneB b)
  rw [hl, hle] at hlt
  have e := leB_le (oneB b)
  rw [hl, hle] at e
  have h2 : tagB one32 b = leB 16 (accOf (le (clampB one32)) b + le (one32.drop 16)) := rfl
  rw [h2, hc, hs]
  unfold accOf
  rw [hk]
  show leB 16 ((0 + blk b 0) * 1 % PP + 0) = _
  unfold blk
  rw [hch, Nat.zero_add, Nat.mul_one, Nat.add_zero, Nat.mod_eq_of_lt (by unfold PP; omega), e]
theorem tag_one_none : tagB one32 [] = List.replicate 16 0 := by decide
end Go.Proofs.Ytnekdjejbobmoaa
