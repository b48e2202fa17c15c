/-
  A block is the same as itself, over this program.
-/
import Derived.Test.YtmhpnddelebjdaaStrOps
import Derived.DeepKeys
namespace Go.Proofs.Ytmhpnddelebjdaa
open Go.RowKit

theorem mapM_some {α β : Type} (f : α → Option β) : ∀ l : List α, (∀ a ∈ l, ∃ b, f a = some b) → ∃ r, l.mapM f = some r
  | [], _ => ⟨[], rfl⟩
  | a :: l, h => by
    obtain ⟨b, hb⟩ := h a (by simp)
    obtain ⟨r, hr⟩ := mapM_some f l (fun x hx => h x (by simp [hx]))
    exact ⟨b :: r, by simp [List.mapM_cons, hb, hr]⟩

theorem cells64 : Try.prog.cellsOf 31 = 64 := by kernel_rfl
theorem cells5 : Try.prog.cellsOf 5 = 1 := by kernel_rfl
theorem eq_self (l : List UInt8) (hl : l.length = 64) (w : World) : (Op.equalIn 10000 31 (.agg (bytesV l).toArray) (.agg (bytesV l).toArray)).run Try.prog w = .ok true w := by
  have hk : ∃ r, Try.prog.keyLits 2 31 (Value.agg (bytesV l).toArray).cells.toList = some r := by
    have hu := Try.underlying31
    have hcs : (Value.agg (bytesV l).toArray).cells.toList = bytesV l := by simp [Value.cells]
    rw [hcs]
    unfold Program.keyLits
    rw [hu]
    simp only
    rw [if_pos (by rw [bytesV_len, hl, cells64])]
    obtain ⟨r, hr⟩ := mapM_some (fun i => Try.prog.keyLits 1 5 (((bytesV l).drop (i * Try.prog.cellsOf 5)).take (Try.prog.cellsOf 5))) (List.range 64) (fun i hi => by
      have hi' : i < l.length := by rw [hl]; simpa using hi
      rw [cells5, Nat.mul_one]
      have e : ((bytesV l).drop i).take 1 = [.int .u8 (l[i].toNat : Int)] := by
        rw [List.drop_eq_getElem_cons (by rw [bytesV_len]; exact hi')]
        simp [bytesV, byteV]
      rw [e]
      unfold Program.keyLits
      rw [Try.underlying5]
      have hw : (Lit.int .u8 (l[i].toNat : Int)).wf = true := by
        have := UInt8.toNat_lt l[i]
        have h1 : IntKind.u8.min = 0 := rfl
        have h2 : IntKind.u8.max = 255 := rfl
        simp [Lit.wf, h1, h2]
        omega
      simp only
      rw [if_pos ⟨trivial, hw⟩]
      exact ⟨_, rfl⟩)
    exact ⟨r.flatten, by rw [hr]; rfl⟩
  obtain ⟨r, hr⟩ := hk
  have hf : (Value.agg (bytesV l).toArray).formed Try.prog 31 = true := by
    simp [Value.formed, Try.underlying31, bytesV_len, hl, cells64]
  obtain ⟨b, h1, h2⟩ := run_equalIn_deep (P := Try.prog) 9998 2 31 (by kernel_rfl) w 2 2 _ _ r r hf hf hr hr
  rw [h2.2 rfl] at h1
  exact h1
section
variable {o : Oper} {a : Act} {w : World}
theorem ex_ne64 {x y : Operand} {l : List UInt8} (hl : l.length = 64) (h : o.op = .binOp .neq 31 x y 31) (hx : Is (.agg (bytesV l).toArray) (a.eval x) w) (hy : Is (.agg (bytesV l).toArray) (a.eval y) w) : (execOp a.eval o).run Try.prog w = .ok (.value (.bool false)) w := by
  have hx' : a.eval x = .agg (bytesV l).toArray := hx
  have hy' : a.eval y = .agg (bytesV l).toArray := hy
  have hq := eq_self l hl w
  simp only [execOp, h, hx', hy']
  simp [go_sem, hq]
end
end Go.Proofs.Ytmhpnddelebjdaa
