/-
  An argument of type []match.Token reads as some tokens.
-/
import Derived.Test.YtibofgokdjbomaaLiftBase
import Derived.Test.YtibofgokdjbomaaTokRow
import Derived.Deep.Slices
namespace Go.Proofs.Ytibofgokdjbomaa
set_option maxRecDepth 1000000
open Go.ChangeShapes Go.WideShapes Go.ChangeAt Go.RowKit

theorem wf_int {a : Int} (h : (Lit.int .i64 a).wf = true) : -9223372036854775808 ≤ a ∧ a ≤ 9223372036854775807 := by
  simpa [Lit.wf, IntKind.min, IntKind.max, IntKind.bits, IntKind.signed] using h
theorem wf_byte {a : Int} (h : (Lit.int .u8 a).wf = true) : 0 ≤ a ∧ a ≤ 255 := by
  simpa [Lit.wf, IntKind.min, IntKind.max, IntKind.bits, IntKind.signed] using h

theorem open_toks {H : Type} {enc : TypeId × Value → H} {W : World} {a : Option Addr} {len cap : Nat} {d : DataW H} {p : List MemPlace}
    (h : DataW.Trod enc Try.prog W 0 (fun _ => true) true 31 (.slice a len cap) d p) : ∃ l : List Tok, RdT W (.slice a len cap) l ∧ l.length = len ∧ ∀ t ∈ l, Fits t := by
  obtain ⟨fuel, hf⟩ := h
  have hc3 : Try.prog.cellsOf 37 = 3 := by kernel_rfl
  have hc8 : Try.prog.cellsOf 5 = 1 := by kernel_rfl
  have hc1 : Try.prog.cellsOf 3 = 1 := by kernel_rfl
  rcases Go.Deep.open_slice Try.underlying31 hf with ⟨hcs, _⟩ | ⟨x, l, c, m, n, D, Pl, hcs, _, hl, hm, hmm, _, hx⟩
  · simp [Value.cells] at hcs
    obtain ⟨rfl, rfl, rfl⟩ := hcs
    exact ⟨[], ⟨none, 0, rfl, Nat.le_refl _, Nat.zero_le _, fun h => absurd rfl h⟩, rfl, fun t ht => by cases ht⟩
  · simp [Value.cells] at hcs
    obtain ⟨rfl, rfl, rfl⟩ := hcs
    have hlm : len ≤ m := by rw [hmm]; split <;> omega
    have each : ∀ i, i < len → ∃ t : Tok, Fits t ∧ ∀ (k : Nat) u, (tokC t)[k]? = some u → W.cell? (x.add (i * 3 + k)) = some u := by
      intro i hi
      obtain ⟨cs', h1, h2⟩ := hx i (by omega)
      rw [hc3] at h1
      obtain ⟨_, hlen, hcell⟩ := World.cells?_some h1
      obtain ⟨xs, k, hk, hxy, _, hxl, hf3⟩ := DataW.trod_struct Try.underlying37 h2
      match cs', hlen with
      | [v0, v1, v2], _ =>
        have g0 := hf3 0 _ rfl
        have g1 := hf3 1 _ rfl
        have g2 := hf3 2 _ rfl
        have hxl' : xs.length = 3 := hxl
        simp [hc8, hc1] at g0 g1 g2
        rw [List.getElem?_eq_getElem (by omega)] at g0 g1 g2
        obtain ⟨a0, e0, _, w0⟩ := DataW.trod_int Try.underlying5 g0
        obtain ⟨a1, e1, _, w1⟩ := DataW.trod_int Try.underlying3 g1
        obtain ⟨a2, e2, _, w2⟩ := DataW.trod_int Try.underlying3 g2
        simp at e0 e1 e2
        subst e0 e1 e2
        have b0 := wf_byte w0
        have b1 := wf_int w1
        have b2 := wf_int w2
        refine ⟨⟨UInt8.ofNat a0.toNat, a1, a2⟩, ⟨b1.1, b1.2, b2.1, b2.2⟩, fun k u hu => ?_⟩
        have ht : ((UInt8.ofNat a0.toNat).toNat : Int) = a0 := by
          rw [UInt8.toNat_ofNat']
          omega
        have hk3 : k < 3 := (List.getElem?_eq_some_iff.1 hu).1
        have := hcell k hk3
        rw [add_add] at this
        rw [this]
        simp only [tokC, ht] at hu
        exact hu
    obtain ⟨q, hq⟩ : ∃ q : Nat → Tok, ∀ i, i < len → Fits (q i) ∧ ∀ (k : Nat) u, (tokC (q i))[k]? = some u → W.cell? (x.add (i * 3 + k)) = some u := by
      refine ⟨fun i => if h : i < len then (each i h).choose else ⟨0, 0, 0⟩, fun i hi => ?_⟩
      simp only [dif_pos hi]
      exact (each i hi).choose_spec
    refine ⟨(List.range len).map q, ⟨some x, cap, by simp, by simp; omega, hm, fun _ => ⟨x, rfl, fun j t ht k u hu => ?_⟩⟩, by simp, fun t ht => ?_⟩
    · rw [List.getElem?_map] at ht
      obtain ⟨j', hj', rfl⟩ := Option.map_eq_some_iff.1 ht
      obtain ⟨hj1, hj2⟩ := List.getElem?_eq_some_iff.1 hj'
      simp at hj1 hj2
      subst hj2
      exact (hq j hj1).2 k u hu
    · obtain ⟨i, hi, rfl⟩ := List.mem_map.1 ht
      exact (hq i (by simpa using hi)).1
end Go.Proofs.Ytibofgokdjbomaa
