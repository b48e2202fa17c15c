/-
  An argument of type []entry.Entry reads as some entries.
-/
import Derived.Test.YtiakkfcjdmecdaaDoorLiftBase
import Derived.Test.YtiakkfcjdmecdaaDoorEnM
import Derived.Deep.Slices
namespace Go.Proofs.YtiakkfcjdmecdaaDoor
set_option maxRecDepth 1000000
open Go.ChangeShapes Go.WideShapes Go.ChangeAt Go.RowKit

theorem wfI {a : Int} (h : (Lit.int .i64 a).wf = true) : I64 a := by
  simpa [I64, Lit.wf, IntKind.min, IntKind.max, IntKind.bits, IntKind.signed] using h
theorem open_ents {H : Type} {enc : TypeId × Value → H} {W : World} {a : Option Addr} {len cap : Nat} {d : DataW H} {p : List MemPlace}
    (h : DataW.Trod enc Tryd.prog W 0 (fun _ => true) true 25 (.slice a len cap) d p) : ∃ l : List En, RdE W (.slice a len cap) l ∧ l.length = len ∧ ∀ t ∈ l, FitE t := by
  obtain ⟨fuel, hf⟩ := h
  have hc7 : Tryd.prog.cellsOf 38 = 7 := by kernel_rfl
  have hc1 : Tryd.prog.cellsOf 3 = 1 := by kernel_rfl
  have hc9 : Tryd.prog.cellsOf 9 = 1 := by kernel_rfl
  rcases Go.Deep.open_slice Tryd.underlying25 hf with ⟨hcs, _⟩ | ⟨x, l, c, m, n, D, Pl, hcs, _, hl, hm, hmm, _, hx⟩
  · simp [Value.cells] at hcs
    obtain ⟨rfl, rfl, rfl⟩ := hcs
    exact ⟨[], RdE.nil W, rfl, fun t ht => by cases ht⟩
  · simp [Value.cells] at hcs
    obtain ⟨rfl, rfl, rfl⟩ := hcs
    have hlm : len ≤ m := by rw [hmm]; split <;> omega
    have each : ∀ i, i < len → ∃ t : En, FitE t ∧ ∀ (k : Nat) u, (enC t)[k]? = some u → W.cell? (x.add (i * 7 + k)) = some u := by
      intro i hi
      obtain ⟨cs', h1, h2⟩ := hx i (by omega)
      rw [hc7] at h1
      obtain ⟨_, hlen, hcell⟩ := World.cells?_some h1
      obtain ⟨xs, k, hk, hxy, _, hxl, hf3⟩ := DataW.trod_struct Tryd.underlying38 h2
      match cs', hlen with
      | [v0, v1, v2, v3, v4, v5, v6], _ =>
        have g0 := hf3 0 _ rfl
        have g1 := hf3 1 _ rfl
        have g2 := hf3 2 _ rfl
        have g3 := hf3 3 _ rfl
        have g4 := hf3 4 _ rfl
        have g5 := hf3 5 _ rfl
        have g6 := hf3 6 _ rfl
        have hxl' : xs.length = 7 := hxl
        simp [hc1, hc9] at g0 g1 g2 g3 g4 g5 g6
        rw [List.getElem?_eq_getElem (by omega)] at g0 g1 g2 g3 g4 g5 g6
        obtain ⟨a0, e0, _, w0⟩ := DataW.trod_string Tryd.underlying9 g0
        obtain ⟨a1, e1, _, w1⟩ := DataW.trod_int Tryd.underlying3 g1
        obtain ⟨a2, e2, _, w2⟩ := DataW.trod_int Tryd.underlying3 g2
        obtain ⟨a3, e3, _, w3⟩ := DataW.trod_int Tryd.underlying3 g3
        obtain ⟨a4, e4, _, w4⟩ := DataW.trod_string Tryd.underlying9 g4
        obtain ⟨a5, e5, _, w5⟩ := DataW.trod_int Tryd.underlying3 g5
        obtain ⟨a6, e6, _, w6⟩ := DataW.trod_int Tryd.underlying3 g6
        simp at e0 e1 e2 e3 e4 e5 e6
        subst e0 e1 e2 e3 e4 e5 e6
        refine ⟨⟨a0.data.toList, a1, a2, a3, a4.data.toList, a5, a6⟩, ⟨wfI w1, wfI w2, wfI w3, wfI w5, wfI w6⟩, fun k u hu => ?_⟩
        have hk7 : k < 7 := (List.getElem?_eq_some_iff.1 hu).1
        have := hcell k hk7
        rw [add_add] at this
        rw [this]
        simp only [enC, bts_of] at hu
        exact hu
    obtain ⟨q, hq⟩ : ∃ q : Nat → En, ∀ i, i < len → FitE (q i) ∧ ∀ (k : Nat) u, (enC (q i))[k]? = some u → W.cell? (x.add (i * 7 + k)) = some u := by
      refine ⟨fun i => if h : i < len then (each i h).choose else default, fun i hi => ?_⟩
      simp only [dif_pos hi]
      exact (each i hi).choose_spec
    refine ⟨(List.range len).map q, ⟨some x, cap, by simp, by simp; omega, hm, fun _ => ⟨x, rfl, fun j t ht k u hu => ?_⟩⟩, by simp, fun t ht => ?_⟩
    · rw [List.getElem?_map] at ht
      obtain ⟨j', hj', rfl⟩ := Option.map_eq_some_iff.1 ht
      obtain ⟨hj1, hj2⟩ := List.getElem?_eq_some_iff.1 hj'
      simp at hj1 hj2
      subst hj2
      exact (hq j hj1).2 k u hu
    · obtain ⟨i, hi, rfl⟩ := List.mem_map.1 ht
      exact (hq i (by simpa using hi)).1
end Go.Proofs.YtiakkfcjdmecdaaDoor
