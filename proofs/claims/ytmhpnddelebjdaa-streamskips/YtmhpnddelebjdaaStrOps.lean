/-
  Operations of layer 5's laws over this program: strings of bytes, whole arrays as slices, words as numbers.
-/
import Derived.Test.YtmhpnddelebjdaaStrAwake
import Derived.Test.YtmhpnddelebjdaaRcXor
namespace Go.Proofs.Ytmhpnddelebjdaa
open Go.RowKit

theorem foldl_push (l : List UInt8) (s : ByteArray) : (l.map fun c => (c.toNat : Int)).foldl (fun r n => r.push (UInt8.ofNat n.toNat)) s = ⟨s.data ++ l.toArray⟩ := by
  induction l generalizing s with
  | nil => simp
  | cons c l ih =>
    rw [List.map_cons, List.foldl_cons, ih]
    congr 1
    simp [ByteArray.push]
theorem run_str {w : World} {A : Option Addr} {n c : Nat} {l : List UInt8} (h : Rd w (.slice A n c) (bytesV l)) :
    (convert 33 9 (.slice A n c)).run Try.prog w = .ok (.string ⟨l.toArray⟩) w := by
  rw [run_convert_bytes_string w 33 9 5 A n c Try.underlying33 Try.underlying5 Try.underlying9]
  obtain ⟨hl, _, _⟩ := h.len
  have hc := h.cells
  have e : bytesV l = (l.map fun c => (c.toNat : Int)).map (Value.int .u8) := by simp [bytesV, byteV]
  cases l with
  | nil =>
    have hn : n = 0 := by simpa [bytesV] using hl.symm
    subst hn
    cases A with
    | none => simp [Conv.bytesToString]; rfl
    | some a =>
      have := run_bytesToString (P := Try.prog) w a 0 c [] (by simp [loadCells, loadCellsFrom])
      exact this
  | cons x l =>
    obtain ⟨ad, rfl, hcl⟩ := hc (by simp [bytesV])
    have hld := run_loadCells_list (P := Try.prog) w ad (bytesV (x :: l)) hcl
    rw [hl, e] at hld
    rw [run_bytesToString w ad n c _ hld, foldl_push]
    simp
section
variable {o : Oper} {a : Act} {w : World}
theorem ex_str {x : Operand} {l : List UInt8} (h : o.op = .convert 33 9 x) (hx : IsB l (a.eval x) w) : (execOp a.eval o).run Try.prog w = .ok (.value (.string ⟨l.toArray⟩)) w := by
  obtain ⟨A, c, hA⟩ := Rd.form hx
  have hx' : Rd w (a.eval x) (bytesV l) := hx
  rw [hA] at hx'
  have := run_str hx'
  simp [execOp, h, hA, this]
theorem ex_eqs {x y : Operand} {t : TypeId} {l : List UInt8} (h : o.op = .binOp .eql 9 x y t) (hx : Is (.string ⟨l.toArray⟩) (a.eval x) w) (hy : Is (.string ⟨l.toArray⟩) (a.eval y) w) :
    (execOp a.eval o).run Try.prog w = .ok (.value (.bool true)) w := by
  have hx' : a.eval x = .string ⟨l.toArray⟩ := hx
  have hy' : a.eval y = .string ⟨l.toArray⟩ := hy
  simp only [execOp, h, hx', hy']
  simp [go_sem]
theorem ex_eqS {x y : Operand} {t : TypeId} {l m : List UInt8} (h : o.op = .binOp .eql 9 x y t) (hx : Is (.string ⟨l.toArray⟩) (a.eval x) w) (hy : Is (.string ⟨m.toArray⟩) (a.eval y) w) :
    (execOp a.eval o).run Try.prog w = .ok (.value (.bool (decide (l = m)))) w := by
  have hx' : a.eval x = .string ⟨l.toArray⟩ := hx
  have hy' : a.eval y = .string ⟨m.toArray⟩ := hy
  have hd : (l == m) = decide (l = m) := by rw [Bool.eq_iff_iff, decide_eq_true_iff, beq_iff_eq]
  simp only [execOp, h, hx', hy']
  simp [go_sem, hd]
theorem ex_nes {x y : Operand} {t : TypeId} {l : List UInt8} (h : o.op = .binOp .neq 9 x y t) (hx : Is (.string ⟨l.toArray⟩) (a.eval x) w) (hy : Is (.string ⟨l.toArray⟩) (a.eval y) w) :
    (execOp a.eval o).run Try.prog w = .ok (.value (.bool false)) w := by
  have hx' : a.eval x = .string ⟨l.toArray⟩ := hx
  have hy' : a.eval y = .string ⟨l.toArray⟩ := hy
  simp only [execOp, h, hx', hy']
  simp [go_sem]
theorem ex_conv32 {x : Operand} {n : W32} (h : o.op = .convert 22 3 x) (hx : Is (.int .u32 (n.toNat : Int)) (a.eval x) w) : (execOp a.eval o).run Try.prog w = .ok (.value (.int .i64 (n.toNat : Int))) w := by
  have hx' : a.eval x = .int .u32 (n.toNat : Int) := hx
  have hb := n.isLt
  have hw : IntKind.i64.wrap (n.toNat : Int) = (n.toNat : Int) := by rw [IntKind.wrap_i64]; omega
  simp only [execOp, h, hx']
  simp [go_sem, hw]
theorem ex_all32 {x : Operand} {g : Nat} (h : o.op = .slice 29 x none none none) (hx : a.eval x = .pointer (some ⟨g, 0, none⟩)) : (execOp a.eval o).run Try.prog w = .ok (.value (.slice (some ⟨g, 0, none⟩) 32 32)) w := by
  simp only [execOp, h, hx]
  simp [Instr.sliceAt, go_sem, Instr.sliceBounds, Addr.add]
theorem ex_all12 {x : Operand} {g : Nat} (h : o.op = .slice 30 x none none none) (hx : a.eval x = .pointer (some ⟨g, 0, none⟩)) : (execOp a.eval o).run Try.prog w = .ok (.value (.slice (some ⟨g, 0, none⟩) 12 12)) w := by
  simp only [execOp, h, hx]
  simp [Instr.sliceAt, go_sem, Instr.sliceBounds, Addr.add]
theorem ex_all64 {x : Operand} {g : Nat} (h : o.op = .slice 31 x none none none) (hx : a.eval x = .pointer (some ⟨g, 0, none⟩)) : (execOp a.eval o).run Try.prog w = .ok (.value (.slice (some ⟨g, 0, none⟩) 64 64)) w := by
  simp only [execOp, h, hx]
  simp [Instr.sliceAt, go_sem, Instr.sliceBounds, Addr.add]
theorem ex_make {n : Nat} {x y : Operand} (h : o.op = .makeSlice 33 x y) (hx : Is (.int .i64 (n : Int)) (a.eval x) w) (hy : Is (.int .i64 (n : Int)) (a.eval y) w) (hn : n ≤ 1000000000000) :
    (execOp a.eval o).run Try.prog w = .ok (.value (.slice (some ⟨w.heap.size, 0, none⟩) n n)) (w.alloc (.cells (bytesV (List.replicate n 0)).toArray 5)) := by
  have hx' : a.eval x = .int .i64 (n : Int) := hx
  have hy' : a.eval y = .int .i64 (n : Int) := hy
  have := run_make_bytes w n hn
  simp [execOp, h, hx', hy', this]
end
/-- A row of the call's own, as Xor answers it. -/
def IsX (l : List UInt8) (v : Value) (w : World) : Prop := ∃ g, v = .slice (some ⟨g, 0, none⟩) l.length l.length ∧ Row w g 5 (bytesV l)
theorem lasts_x (l : List UInt8) : Lasts none (IsX l) := fun _ _ _ ⟨g, h1, h2⟩ hg => ⟨g, h1, h2.grown0 hg⟩
theorem IsX.rd {l : List UInt8} {v : Value} {w : World} (h : IsX l v w) (hl : l.length ≤ 100000000000) : Rd w v (bytesV l) := by
  obtain ⟨g, rfl, hr⟩ := h
  exact hr.rds _ _ (bytesV_len l) (Nat.le_refl _) (by unfold maxLen; omega)
theorem XOut.isX {l : List UInt8} {w w' : World} {e : Ending} (h : XOut l w e w') : ∃ v, e = .returned v ∧ w.grownBy w' none ∧ IsX l v w' := by
  obtain ⟨g, rfl, hr, hg, _⟩ := h
  exact ⟨_, rfl, hg, g, rfl, hr⟩
/-- Xor of whatever reads as bytes. -/
theorem xor_at (key : List UInt8) (hk : key.length = 32) (n : W32) (nonce : List UInt8) (hn : nonce.length = 12) (v : Value) (b : List UInt8) (w : World) (hr : Rd w v (bytesV b)) (hb : b.length ≤ 100000000000) :
    Calls Try.prog 16 #[.agg (bytesV key).toArray, .int .u32 (n.toNat : Int), .agg (bytesV nonce).toArray, v] w (fun e w' => ∃ v, e = .returned v ∧ w.grownBy w' none ∧ IsX (xs key n nonce b) v w') := by
  obtain ⟨A, c, hv⟩ := hr.form
  subst hv
  rw [bytesV_len] at hr ⊢
  exact (xor_any key hk n nonce hn A b.length c b w hr hb).mono fun _ _ h => h.isX
end Go.Proofs.Ytmhpnddelebjdaa
