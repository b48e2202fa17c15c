/-
  Strings of bytes, made and compared, over this program.
-/
import Derived.Test.YtiakkfcjdmecdaaDoorMMem
import Derived.Test.YtiakkfcjdmecdaaDoorAppBytes
import Derived.Test.YtiakkfcjdmecdaaDoorChecked
namespace Go.Proofs.YtiakkfcjdmecdaaDoor
set_option maxRecDepth 1000000
open Go.RowKit

theorem foldl_push (l : List UInt8) (s : ByteArray) : (l.map fun c => (c.toNat : Int)).foldl (fun r n => r.push (UInt8.ofNat n.toNat)) s = ⟨s.data ++ l.toArray⟩ := by
  induction l generalizing s with
  | nil => simp
  | cons c l ih =>
    rw [List.map_cons, List.foldl_cons, ih]
    congr 1
    simp [ByteArray.push]
theorem run_str {w : World} {A : Option Addr} {n c : Nat} {l : List UInt8} (h : Rd w (.slice A n c) (bytesV l)) :
    (convert 45 9 (.slice A n c)).run Tryd.prog w = .ok (.string ⟨l.toArray⟩) w := by
  rw [run_convert_bytes_string w 45 9 5 A n c Tryd.underlying45 Tryd.underlying5 Tryd.underlying9]
  obtain ⟨hl, _, _⟩ := h.len
  have hc := h.cells
  have e : bytesV l = (l.map fun c => (c.toNat : Int)).map (Value.int .u8) := by simp [bytesV, byteV]
  cases l with
  | nil =>
    have hn : n = 0 := by simpa [bytesV] using hl.symm
    subst hn
    cases A with
    | none => simp [Conv.bytesToString]; rfl
    | some a =>
      have := run_bytesToString (P := Tryd.prog) w a 0 c [] (by simp [loadCells, loadCellsFrom])
      exact this
  | cons x l =>
    obtain ⟨ad, rfl, hcl⟩ := hc (by simp [bytesV])
    have hld := run_loadCells_list (P := Tryd.prog) w ad (bytesV (x :: l)) hcl
    rw [hl, e] at hld
    rw [run_bytesToString w ad n c _ hld, foldl_push]
    simp
section
variable {o : Oper} {a : Act} {w : World}
theorem ex_str {x : Operand} {l : List UInt8} (h : o.op = .convert 45 9 x) (hx : IsB l (a.eval x) w) : (execOp a.eval o).run Tryd.prog w = .ok (.value (.string ⟨l.toArray⟩)) w := by
  obtain ⟨A, c, hA⟩ := Rd.form hx
  have hx' : Rd w (a.eval x) (bytesV l) := hx
  rw [hA] at hx'
  have := run_str hx'
  simp [execOp, h, hA, this]
theorem ex_eqs {x y : Operand} {t : TypeId} {l : List UInt8} (h : o.op = .binOp .eql 9 x y t) (hx : Is (.string ⟨l.toArray⟩) (a.eval x) w) (hy : Is (.string ⟨l.toArray⟩) (a.eval y) w) :
    (execOp a.eval o).run Tryd.prog w = .ok (.value (.bool true)) w := by
  have hx' : a.eval x = .string ⟨l.toArray⟩ := hx
  have hy' : a.eval y = .string ⟨l.toArray⟩ := hy
  simp only [execOp, h, hx', hy']
  simp [go_sem]
theorem ex_eqS {x y : Operand} {t : TypeId} {l m : List UInt8} (h : o.op = .binOp .eql 9 x y t) (hx : Is (.string ⟨l.toArray⟩) (a.eval x) w) (hy : Is (.string ⟨m.toArray⟩) (a.eval y) w) :
    (execOp a.eval o).run Tryd.prog w = .ok (.value (.bool (decide (l = m)))) w := by
  have hx' : a.eval x = .string ⟨l.toArray⟩ := hx
  have hy' : a.eval y = .string ⟨m.toArray⟩ := hy
  have hd : (l == m) = decide (l = m) := by rw [Bool.eq_iff_iff, decide_eq_true_iff, beq_iff_eq]
  simp only [execOp, h, hx', hy']
  simp [go_sem, hd]
theorem ex_nes {x y : Operand} {t : TypeId} {l : List UInt8} (h : o.op = .binOp .neq 9 x y t) (hx : Is (.string ⟨l.toArray⟩) (a.eval x) w) (hy : Is (.string ⟨l.toArray⟩) (a.eval y) w) :
    (execOp a.eval o).run Tryd.prog w = .ok (.value (.bool false)) w := by
  have hx' : a.eval x = .string ⟨l.toArray⟩ := hx
  have hy' : a.eval y = .string ⟨l.toArray⟩ := hy
  simp only [execOp, h, hx', hy']
  simp [go_sem]
end
end Go.Proofs.YtiakkfcjdmecdaaDoor
