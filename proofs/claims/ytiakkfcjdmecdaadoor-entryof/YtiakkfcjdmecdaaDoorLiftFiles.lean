/-
  An argument of type []entry.File reads as some files.
-/
import Derived.Test.YtiakkfcjdmecdaaDoorLift
import Derived.Test.YtiakkfcjdmecdaaDoorLiftEnts
import Derived.Test.YtiakkfcjdmecdaaDoorEnFl
import Derived.Deep.Slices
namespace Go.Proofs.YtiakkfcjdmecdaaDoor
set_option maxRecDepth 1000000
open Go.ChangeShapes Go.WideShapes Go.ChangeAt Go.RowKit

theorem open_files {H : Type} {enc : TypeId × Value → H} {W : World} {a : Option Addr} {len cap : Nat} {d : DataW H} {p : List MemPlace}
    (h : DataW.Trod enc Tryd.prog W 0 (fun _ => true) true 22 (.slice a len cap) d p) : ∃ l : List Fl, RdF W (.slice a len cap) l ∧ l.length = len ∧ ∀ t ∈ l, FitF t := by
  obtain ⟨fuel, hf⟩ := h
  have hc6 : Tryd.prog.cellsOf 52 = 6 := by kernel_rfl
  have hc1 : Tryd.prog.cellsOf 3 = 1 := by kernel_rfl
  have hc9 : Tryd.prog.cellsOf 9 = 1 := by kernel_rfl
  have hcb : Tryd.prog.cellsOf 45 = 1 := by kernel_rfl
  rcases Go.Deep.open_slice Tryd.underlying22 hf with ⟨hcs, _⟩ | ⟨x, l, c, m, n, D, Pl, hcs, _, hl, hm, hmm, _, hx⟩
  · simp [Value.cells] at hcs
    obtain ⟨rfl, rfl, rfl⟩ := hcs
    exact ⟨[], RdF.nil W, rfl, fun t ht => by cases ht⟩
  · simp [Value.cells] at hcs
    obtain ⟨rfl, rfl, rfl⟩ := hcs
    have hlm : len ≤ m := by rw [hmm]; split <;> omega
    have each : ∀ i, i < len → ∃ t : Fl, FitF t ∧ ∃ u, Rd W u (bytesV t.data) ∧ ∀ (k : Nat) y, (flC t u)[k]? = some y → W.cell? (x.add (i * 6 + k)) = some y := by
      intro i hi
      obtain ⟨cs', h1, h2⟩ := hx i (by omega)
      rw [hc6] at h1
      obtain ⟨_, hlen, hcell⟩ := World.cells?_some h1
      obtain ⟨xs, k, hk, hxy, _, hxl, hf3⟩ := DataW.trod_struct Tryd.underlying52 h2
      match cs', hlen with
      | [v0, v1, v2, v3, v4, v5], _ =>
        have g0 := hf3 0 _ rfl
        have g1 := hf3 1 _ rfl
        have g2 := hf3 2 _ rfl
        have g3 := hf3 3 _ rfl
        have g4 := hf3 4 _ rfl
        have g5 := hf3 5 _ rfl
        have hxl' : xs.length = 6 := hxl
        simp [hc1, hc9, hcb] at g0 g1 g2 g3 g4 g5
        rw [List.getElem?_eq_getElem (by omega)] at g0 g1 g2 g3 g4 g5
        obtain ⟨a0, e0, _, w0⟩ := DataW.trod_string Tryd.underlying9 g0
        obtain ⟨a1, e1, _, w1⟩ := DataW.trod_int Tryd.underlying3 g1
        obtain ⟨a2, e2, _, w2⟩ := DataW.trod_int Tryd.underlying3 g2
        obtain ⟨a3, e3, _, w3⟩ := DataW.trod_int Tryd.underlying3 g3
        obtain ⟨a5, e5, _, w5⟩ := DataW.trod_string Tryd.underlying9 g5
        simp at e0 e1 e2 e3 e5
        subst e0 e1 e2 e3 e5
        have hv4 : ∃ A2 n2 c2, v4 = .slice A2 n2 c2 := by
          rcases Go.Deep.open_slice Tryd.underlying45 g4 with ⟨hcs, _⟩ | ⟨x2, l2, c2, m2, n2, D2, Pl2, hcs, _⟩
          · simp at hcs; exact ⟨_, _, _, hcs⟩
          · simp at hcs; exact ⟨_, _, _, hcs⟩
        obtain ⟨A2, n2, c2, rfl⟩ := hv4
        obtain ⟨bs, hbs, _⟩ := open_bytes (enc := enc) (W := W) (a := A2) (len := n2) (cap := c2) (d := (xs[4]'(by omega)).1) (p := (xs[4]'(by omega)).2) ⟨_, g4⟩
        refine ⟨⟨a0.data.toList, a1, a2, a3, bs, a5.data.toList⟩, ⟨wfI w1, wfI w2, wfI w3⟩, _, hbs, fun k u hu => ?_⟩
        have hk6 : k < 6 := (List.getElem?_eq_some_iff.1 hu).1
        have := hcell k hk6
        rw [add_add] at this
        rw [this]
        simp only [flC, bts_of] at hu
        exact hu
    obtain ⟨q, hq⟩ : ∃ q : Nat → Fl, ∀ i, i < len → FitF (q i) ∧ ∃ u, Rd W u (bytesV (q i).data) ∧ ∀ (k : Nat) y, (flC (q i) u)[k]? = some y → W.cell? (x.add (i * 6 + k)) = some y := by
      refine ⟨fun i => if h : i < len then (each i h).choose else default, fun i hi => ?_⟩
      simp only [dif_pos hi]
      exact (each i hi).choose_spec
    refine ⟨(List.range len).map q, ⟨some x, cap, by simp, by simp; omega, hm, fun _ => ⟨x, rfl, fun j t ht => ?_⟩⟩, by simp, fun t ht => ?_⟩
    · rw [List.getElem?_map] at ht
      obtain ⟨j', hj', rfl⟩ := Option.map_eq_some_iff.1 ht
      obtain ⟨hj1, hj2⟩ := List.getElem?_eq_some_iff.1 hj'
      simp at hj1 hj2
      subst hj2
      exact (hq j hj1).2
    · obtain ⟨i, hi, rfl⟩ := List.mem_map.1 ht
      exact (hq i (by simpa using hi)).1
end Go.Proofs.YtiakkfcjdmecdaaDoor
