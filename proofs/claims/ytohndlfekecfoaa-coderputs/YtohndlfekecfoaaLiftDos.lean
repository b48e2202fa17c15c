/-
  An argument of type []Do reads as some steps.
-/
import Derived.Test.YtohndlfekecfoaaLiftBase
import Derived.Test.YtohndlfekecfoaaCodDo
import Derived.Deep.Slices
namespace Go.Proofs.Ytohndlfekecfoaa
set_option maxRecDepth 1000000
open Go.ChangeShapes Go.WideShapes Go.ChangeAt Go.RowKit

theorem wf_int {a : Int} (h : (Lit.int .i64 a).wf = true) : -9223372036854775808 ≤ a ∧ a ≤ 9223372036854775807 := by
  simpa [Lit.wf, IntKind.min, IntKind.max, IntKind.bits, IntKind.signed] using h
theorem open_dos {H : Type} {enc : TypeId × Value → H} {W : World} {a : Option Addr} {len cap : Nat} {d : DataW H} {p : List MemPlace}
    (h : DataW.Trod enc Try.prog W 0 (fun _ => true) true 22 (.slice a len cap) d p) : ∃ l : List Dos, RdD W (.slice a len cap) l ∧ l.length = len ∧ ∀ t ∈ l, FitD t := by
  obtain ⟨fuel, hf⟩ := h
  have hc4 : Try.prog.cellsOf 35 = 4 := by kernel_rfl
  have hc1 : Try.prog.cellsOf 3 = 1 := by kernel_rfl
  rcases Go.Deep.open_slice Try.underlying22 hf with ⟨hcs, _⟩ | ⟨x, l, c, m, n, D, Pl, hcs, _, hl, hm, hmm, _, hx⟩
  · simp [Value.cells] at hcs
    obtain ⟨rfl, rfl, rfl⟩ := hcs
    exact ⟨[], ⟨none, 0, rfl, Nat.le_refl _, Nat.zero_le _, fun h => absurd rfl h⟩, rfl, fun t ht => by cases ht⟩
  · simp [Value.cells] at hcs
    obtain ⟨rfl, rfl, rfl⟩ := hcs
    have hlm : len ≤ m := by rw [hmm]; split <;> omega
    have each : ∀ i, i < len → ∃ t : Dos, FitD t ∧ ∀ (k : Nat) u, (doC t)[k]? = some u → W.cell? (x.add (i * 4 + k)) = some u := by
      intro i hi
      obtain ⟨cs', h1, h2⟩ := hx i (by omega)
      rw [hc4] at h1
      obtain ⟨_, hlen, hcell⟩ := World.cells?_some h1
      obtain ⟨xs, k, hk, hxy, _, hxl, hf3⟩ := DataW.trod_struct Try.underlying35 h2
      match cs', hlen with
      | [v0, v1, v2, v3], _ =>
        have g0 := hf3 0 _ rfl
        have g1 := hf3 1 _ rfl
        have g2 := hf3 2 _ rfl
        have g3 := hf3 3 _ rfl
        have hxl' : xs.length = 4 := hxl
        simp [hc1] at g0 g1 g2 g3
        rw [List.getElem?_eq_getElem (by omega)] at g0 g1 g2 g3
        obtain ⟨a0, e0, _, w0⟩ := DataW.trod_int Try.underlying3 g0
        obtain ⟨a1, e1, _, w1⟩ := DataW.trod_int Try.underlying3 g1
        obtain ⟨a2, e2, _, w2⟩ := DataW.trod_int Try.underlying3 g2
        obtain ⟨a3, e3, _, w3⟩ := DataW.trod_int Try.underlying3 g3
        simp at e0 e1 e2 e3
        subst e0 e1 e2 e3
        refine ⟨⟨a0, a1, a2, a3⟩, ⟨wf_int w0, wf_int w1, wf_int w2, wf_int w3⟩, fun k u hu => ?_⟩
        have hk4 : k < 4 := (List.getElem?_eq_some_iff.1 hu).1
        have := hcell k hk4
        rw [add_add] at this
        rw [this]
        simp only [doC] at hu
        exact hu
    obtain ⟨q, hq⟩ : ∃ q : Nat → Dos, ∀ i, i < len → FitD (q i) ∧ ∀ (k : Nat) u, (doC (q i))[k]? = some u → W.cell? (x.add (i * 4 + k)) = some u := by
      refine ⟨fun i => if h : i < len then (each i h).choose else ⟨0, 0, 0, 0⟩, fun i hi => ?_⟩
      simp only [dif_pos hi]
      exact (each i hi).choose_spec
    refine ⟨(List.range len).map q, ⟨some x, cap, by simp, by simp; omega, hm, fun _ => ⟨x, rfl, fun j t ht k u hu => ?_⟩⟩, by simp, fun t ht => ?_⟩
    · rw [List.getElem?_map] at ht
      obtain ⟨j', hj', rfl⟩ := Option.map_eq_some_iff.1 ht
      obtain ⟨hj1, hj2⟩ := List.getElem?_eq_some_iff.1 hj'
      simp at hj1 hj2
      subst hj2
      exact (hq j hj1).2 k u hu
    · obtain ⟨i, hi, rfl⟩ := List.mem_map.1 ht
      exact (hq i (by simpa using hi)).1
end Go.Proofs.Ytohndlfekecfoaa
