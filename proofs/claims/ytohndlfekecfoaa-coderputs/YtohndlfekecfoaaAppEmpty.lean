/-
  append of bytes onto a new empty row: nothing that lay there is turned.
-/
import Derived.Test.YtohndlfekecfoaaAppBytes
import Derived.Laws.OwnMore
namespace Go.Proofs.Ytohndlfekecfoaa
set_option maxRecDepth 1000000
open Go.RowKit

theorem run_append_empty (w : World) (H g : Nat) (ty : TypeId) (hown : w.ownsRow H 5 1 (.slice (some ⟨g, 0, none⟩) 0 0) 0 []) (hH : H ≤ w.heap.size) (u : Value) (l : List UInt8) (hr : Rd w u (bytesV l)) (hl : l.length ≤ 1000000000) :
    ∃ v' w', (Builtin.append_ #[28, 28] ty #[.slice (some ⟨g, 0, none⟩) 0 0, u]).run Try.prog w = .ok v' w' ∧ w'.ownsRow H 5 1 v' l.length (bytesV l) ∧ w.grownBy w' none := by
  obtain ⟨i, hi, hz, hs1, hb⟩ := infoByte
  obtain ⟨v', w', hrun, h2, h3, h4⟩ := run_append_rd (P := Try.prog) w H 28 ty 5 i (.int .u8 0) 1 Try.underlying28 hi hz hs1 hb rfl _ 0 [] hown u (bytesV l) hr (bytesV_one _) (by rw [bytesV_len]; omega) (by rw [bytesV_len]; omega) hH
  rw [bytesV_len, Nat.zero_add, List.nil_append] at h2
  refine ⟨v', w', hrun, h2, ?_⟩
  obtain ⟨A, c, rfl, h5, h6, hc⟩ := hr
  cases l with
  | nil =>
    have e : w' = w := by
      cases A with
      | none =>
        have h7 : (Builtin.append_ #[28, 28] ty #[.slice (some ⟨g, 0, none⟩) 0 0, .slice none (bytesV []).length c]).run Try.prog w = .ok (.slice (some ⟨g, 0, none⟩) 0 0) w := by
          simp [Builtin.append_, run_underlying Try.underlying28, sizeOf, typeInfo, hi, Builtin.lenOf, Builtin.firstCells, storeCells, bytesV]
        rw [hrun] at h7
        injection h7
      | some ad =>
        have h7 : (Builtin.append_ #[28, 28] ty #[.slice (some ⟨g, 0, none⟩) 0 0, .slice (some ad) (bytesV []).length c]).run Try.prog w = .ok (.slice (some ⟨g, 0, none⟩) 0 0) w := by
          simp [Builtin.append_, run_underlying Try.underlying28, sizeOf, typeInfo, hi, Builtin.lenOf, Builtin.firstCells, loadCells, loadCellsFrom, storeCells, bytesV]
        rw [hrun] at h7
        injection h7
    rw [e]
    exact grown_refl _ _
  | cons x t =>
    obtain ⟨ad, rfl, hcl⟩ := hc (by simp [bytesV])
    have h7 := run_append_grow (P := Try.prog) w 28 ty 5 i (.int .u8 0) Try.underlying28 hi hz ⟨g, 0, none⟩ 0 0 [] (by simp) (fun j v hj => by simp at hj) ad (bytesV (x :: t)).length c (bytesV (x :: t)) (by rw [hs1, Nat.mul_one]) hcl
      (by rw [bytesV_len]; simp) (by rw [bytesV_len]; omega) (growslice_fits (by rw [bytesV_len]; simp) (by rw [hb, bytesV_len]; omega))
    rw [hrun] at h7
    injection h7 with _ h8
    rw [h8]
    exact ⟨rfl, rfl, rfl, by simp, fun k hk _ => heap_alloc_old w.drew _ hk⟩
end Go.Proofs.Ytohndlfekecfoaa
