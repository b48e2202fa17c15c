/-
  An argument of type []int reads as some numbers that fit.
-/
import Derived.Test.YtlmdjkahbejcdaaLiftBase
import Derived.Test.YtlmdjkahbejcdaaCodDo
namespace Go.Proofs.Ytlmdjkahbejcdaa
open Go.ChangeShapes Go.WideShapes Go.ChangeAt Go.RowKit

theorem open_zr {H : Type} {enc : TypeId × Value → H} {W : World} {a : Option Addr} {len cap : Nat} {d : DataW H} {p : List MemPlace}
    (h : DataW.Trod enc Try.prog W 0 (fun _ => true) true 63 (.slice a len cap) d p) : ∃ l : List Int, Rd W (.slice a len cap) (l.map fun z : Int => Value.int .i64 z) ∧ l.length = len ∧ ∀ z ∈ l, In64 z := by
  obtain ⟨fuel, hf⟩ := h
  rcases open_ints Try.underlying63 Try.underlying3 (by kernel_rfl) hf with ⟨hcs, _⟩ | ⟨x, l, c, zs, hcs, _, hl, hm, hz, _, hcell, hwz⟩
  · simp [Value.cells] at hcs
    obtain ⟨rfl, rfl, rfl⟩ := hcs
    exact ⟨[], Rd.nil W, rfl, fun z hz => by cases hz⟩
  · simp [Value.cells] at hcs
    obtain ⟨rfl, rfl, rfl⟩ := hcs
    have hlen : (zs.take len).length = len := by
      have : zs.length = cap := by simpa using hz
      simp
      omega
    refine ⟨zs.take len, ⟨_, cap, by rw [List.length_map, hlen], by rw [List.length_map, hlen]; exact hl, hm, fun _ => ⟨_, rfl, fun j u hu => ?_⟩⟩, hlen, fun z hz => by
      have h := hwz z (List.mem_of_mem_take hz)
      simpa [In64, Lit.wf, IntKind.min, IntKind.max, IntKind.bits, IntKind.signed] using h⟩
    simp only [List.getElem?_map, Option.map_eq_some_iff] at hu
    obtain ⟨z, hz1, rfl⟩ := hu
    rw [List.getElem?_take] at hz1
    split at hz1
    · obtain ⟨hj, rfl⟩ := List.getElem?_eq_some_iff.1 hz1
      rw [hcell j hj]
      simp [List.getD_eq_getElem?_getD, List.getElem?_eq_getElem hj]
    · cases hz1
end Go.Proofs.Ytlmdjkahbejcdaa
