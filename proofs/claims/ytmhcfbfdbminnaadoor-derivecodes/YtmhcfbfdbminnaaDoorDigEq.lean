/-
  A digest is the same as itself, over this program.
-/
import Derived.Test.YtmhcfbfdbminnaaDoorDigOne
import Derived.DeepKeys
namespace Go.Proofs.YtmhcfbfdbminnaaDoor
open Go.RowKit

theorem mapM_some {α β : Type} (f : α → Option β) : ∀ l : List α, (∀ a ∈ l, ∃ b, f a = some b) → ∃ r, l.mapM f = some r
  | [], _ => ⟨[], rfl⟩
  | a :: l, h => by
    obtain ⟨b, hb⟩ := h a (by simp)
    obtain ⟨r, hr⟩ := mapM_some f l (fun x hx => h x (by simp [hx]))
    exact ⟨b :: r, by simp [List.mapM_cons, hb, hr]⟩

theorem cells24 : Tryd.prog.cellsOf 24 = 32 := by kernel_rfl
theorem cells5 : Tryd.prog.cellsOf 5 = 1 := by kernel_rfl
theorem eq_self (l : List UInt8) (hl : l.length = 32) (w : World) : (Op.equalIn 10000 24 (.agg (bytesV l).toArray) (.agg (bytesV l).toArray)).run Tryd.prog w = .ok true w := by
  have hk : ∃ r, Tryd.prog.keyLits 2 24 (Value.agg (bytesV l).toArray).cells.toList = some r := by
    have hu := Tryd.underlying24
    have hcs : (Value.agg (bytesV l).toArray).cells.toList = bytesV l := by simp [Value.cells]
    rw [hcs]
    unfold Program.keyLits
    rw [hu]
    simp only
    rw [if_pos (by rw [bytesV_len, hl, cells24])]
    obtain ⟨r, hr⟩ := mapM_some (fun i => Tryd.prog.keyLits 1 5 (((bytesV l).drop (i * Tryd.prog.cellsOf 5)).take (Tryd.prog.cellsOf 5))) (List.range 32) (fun i hi => by
      have hi' : i < l.length := by rw [hl]; simpa using hi
      rw [cells5, Nat.mul_one]
      have e : ((bytesV l).drop i).take 1 = [.int .u8 (l[i].toNat : Int)] := by
        rw [List.drop_eq_getElem_cons (by rw [bytesV_len]; exact hi')]
        simp [bytesV, byteV]
      rw [e]
      unfold Program.keyLits
      rw [Tryd.underlying5]
      have hw : (Lit.int .u8 (l[i].toNat : Int)).wf = true := by
        have := UInt8.toNat_lt l[i]
        have h1 : IntKind.u8.min = 0 := rfl
        have h2 : IntKind.u8.max = 255 := rfl
        simp [Lit.wf, h1, h2]
        omega
      simp only
      rw [if_pos ⟨trivial, hw⟩]
      exact ⟨_, rfl⟩)
    exact ⟨r.flatten, by rw [hr]; rfl⟩
  obtain ⟨r, hr⟩ := hk
  have hf : (Value.agg (bytesV l).toArray).formed Tryd.prog 24 = true := by
    simp [Value.formed, Tryd.underlying24, bytesV_len, hl, cells24]
  obtain ⟨b, h1, h2⟩ := run_equalIn_deep (P := Tryd.prog) 9998 2 24 (by kernel_rfl) w 2 2 _ _ r r hf hf hr hr
  rw [h2.2 rfl] at h1
  exact h1
theorem sha_len (l : List UInt8) : (sha l).length = 32 := by
  unfold sha
  rw [told_len, runB_len _ _ start_len]
end Go.Proofs.YtmhcfbfdbminnaaDoor
