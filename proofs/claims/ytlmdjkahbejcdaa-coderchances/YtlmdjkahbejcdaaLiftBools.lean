/-
  An argument of type []bool reads as some truths.
-/
import Derived.Test.YtlmdjkahbejcdaaLiftBase
import Derived.Test.YtlmdjkahbejcdaaCodDo
import Derived.Deep.Slices
namespace Go.Proofs.Ytlmdjkahbejcdaa
open Go.ChangeShapes Go.WideShapes Go.ChangeAt Go.RowKit

theorem open_bools {H : Type} {enc : TypeId × Value → H} {W : World} {a : Option Addr} {len cap : Nat} {d : DataW H} {p : List MemPlace}
    (h : DataW.Trod enc Try.prog W 0 (fun _ => true) true 58 (.slice a len cap) d p) : ∃ l : List Bool, Rd W (.slice a len cap) (boolsV l) ∧ l.length = len := by
  obtain ⟨fuel, hf⟩ := h
  have hc1 : Try.prog.cellsOf 4 = 1 := by kernel_rfl
  rcases Go.Deep.open_slice Try.underlying58 hf with ⟨hcs, _⟩ | ⟨x, l, c, m, n, D, Pl, hcs, _, hl, hm, hmm, _, hx⟩
  · simp [Value.cells] at hcs
    obtain ⟨rfl, rfl, rfl⟩ := hcs
    exact ⟨[], Rd.nil W, rfl⟩
  · simp [Value.cells] at hcs
    obtain ⟨rfl, rfl, rfl⟩ := hcs
    have hlm : len ≤ m := by rw [hmm]; split <;> omega
    have each : ∀ i, i < len → ∃ t : Bool, W.cell? (x.add i) = some (.bool t) := by
      intro i hi
      obtain ⟨cs', h1, h2⟩ := hx i (by omega)
      rw [hc1, Nat.mul_one] at h1
      obtain ⟨_, hlen, hcell⟩ := World.cells?_some h1
      obtain ⟨b, e, _⟩ := DataW.trod_bool Try.underlying4 h2
      have e2 : cs'[0]? = some (.bool b) := by rw [e]; rfl
      have := hcell 0 (by omega)
      rw [e2, add_add, Nat.add_zero] at this
      exact ⟨b, this⟩
    obtain ⟨q, hq⟩ : ∃ q : Nat → Bool, ∀ i, i < len → W.cell? (x.add i) = some (.bool (q i)) := by
      refine ⟨fun i => if h : i < len then (each i h).choose else false, fun i hi => ?_⟩
      simp only [dif_pos hi]
      exact (each i hi).choose_spec
    refine ⟨(List.range len).map q, ⟨some x, cap, by simp [boolsV], by simp [boolsV]; omega, hm, fun _ => ⟨x, rfl, fun j u hu => ?_⟩⟩, by simp⟩
    simp only [boolsV, List.map_map, List.getElem?_map] at hu
    obtain ⟨j', hj', rfl⟩ := Option.map_eq_some_iff.1 hu
    obtain ⟨hj1, hj2⟩ := List.getElem?_eq_some_iff.1 hj'
    simp at hj1 hj2
    subst hj2
    exact hq j hj1
end Go.Proofs.Ytlmdjkahbejcdaa
