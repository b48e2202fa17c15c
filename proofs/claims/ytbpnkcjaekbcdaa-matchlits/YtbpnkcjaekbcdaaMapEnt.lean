/-
  m[k]++ on a map keyed by three bytes, where the key is not there: what its operations do, one by one.
-/
import Derived.Test.YtbpnkcjaekbcdaaMapTri
namespace Go.Proofs.Ytbpnkcjaekbcdaa
open Go.RowKit Go.Maps Go.WideElems Go.ChangeMaps

theorem find_last (es : Array MapEntry) (x : MapEntry) (h : ∀ y ∈ es.toList, y.born < x.born) : (es.push x).findIdx? (fun e => (e.born : Int) == (x.born : Int)) = some es.size := by
  rw [Array.findIdx?_eq_some_iff_getElem]
  refine ⟨by simp, by simp, fun j hj => ?_⟩
  rw [Array.getElem_push_lt hj]
  have := h es[j] (by simp)
  simp
  omega
theorem modify_last (es : Array MapEntry) (x : MapEntry) (v : Value) : (es.push x).modify es.size (fun e => { e with val := v }) = es.push { x with val := v } := by
  apply Array.ext
  · simp
  · intro i h1 h2
    rw [Array.getElem_modify]
    by_cases hi : es.size = i
    · subst hi
      simp
    · rw [if_neg hi]
      have : i < es.size := by simp at h2; omega
      rw [Array.getElem_push_lt this, Array.getElem_push_lt this]

/-- The key's entry is made, read, and written. -/
theorem Mp.entry {w : World} {b n : Nat} {M : Tri → Option Int} (h : Mp w b n M) (hn : n < maxLen) (x : Tri) (hx : M x = none) :
    ∃ w1 w2 s, (Instr.mapEntry 44 (.map (some b)) (triV x)).run Try.prog w = .ok (.tuple #[.int .i64 0, .int .i64 s]) w1 ∧
      (Instr.lookup 44 (.map (some b)) (triV x) false).run Try.prog w1 = .ok (.int .i64 0) w1 ∧
      (Instr.entryStore 44 (.map (some b)) (.int .i64 s) (.int .i64 1)).run Try.prog w1 = .ok () w2 ∧
      Mp w2 b (n + 1) (fun y => if y = x then some 1 else M y) ∧ w.grownBy w2 (some b) ∧ w.grownBy w1 (some b) := by
  obtain ⟨w0', hr0, hM0, hg0⟩ := h.store hn x 0 (by decide)
  obtain ⟨w', hr1, hM1, hg1⟩ := h.store hn x 1 (by decide)
  have hlk := h.look x
  rw [hx] at hlk
  obtain ⟨D, ⟨es, clock, hb, F, hs, _⟩, _⟩ := h
  have hkey := keyOf_tri x
  have ht := Try.underlying44
  rcases triLaw.find w hkey es.toList F.keys with ⟨h1, h2⟩ | ⟨j, e0, h1, h2, h3⟩
  · have e0 : (Instr.mapUpdate 44 (.map (some b)) (triV x) (.int .i64 0)).run Try.prog w = .ok () (setBlock w b (.map (es.push ⟨triV x, .int .i64 0, clock⟩) (clock + 1))) := by
      simp [Instr.mapUpdate, run_underlying ht, MapKept.run_getObj_map hb, triLaw.check w false hkey, h1, MapKept.run_setObj_map _ hb, Result.andThen, setBlock]
    have e1 : (Instr.mapUpdate 44 (.map (some b)) (triV x) (.int .i64 1)).run Try.prog w = .ok () (setBlock w b (.map (es.push ⟨triV x, .int .i64 1, clock⟩) (clock + 1))) := by
      simp [Instr.mapUpdate, run_underlying ht, MapKept.run_getObj_map hb, triLaw.check w false hkey, h1, MapKept.run_setObj_map _ hb, Result.andThen, setBlock]
    rw [hr0] at e0
    rw [hr1] at e1
    injection e0 with _ e0
    injection e1 with _ e1
    subst e0 e1
    have hb1 : (setBlock w b (.map (es.push ⟨triV x, .int .i64 0, clock⟩) (clock + 1))).heap[b]? = some (.map (es.push ⟨triV x, .int .i64 0, clock⟩) (clock + 1)) := heap_setBlock_same hb _
    refine ⟨setBlock w b (.map (es.push ⟨triV x, .int .i64 0, clock⟩) (clock + 1)), _, (clock : Int), ?_, ?_, ?_, hM1, hg1, hg0⟩
    · simp [Instr.mapEntry, run_underlying ht, MapKept.run_getObj_map hb, triLaw.check w false hkey, h1, zeroInt w, MapKept.run_setObj_map _ hb, Result.andThen, setBlock, goInt]
    · have := hM0.look1 x
      simpa using this
    · have hf := find_last es ⟨triV x, .int .i64 0, clock⟩ (fun y hy => F.stamped.1 y hy)
      have hm := modify_last es ⟨triV x, .int .i64 0, clock⟩ (.int .i64 1)
      simp only at hf hm
      simp only [Instr.entryStore, Sem.run_bind, Sem.run_pure, MapKept.run_getObj_map hb1, Result.andThen_ok, asInt, asIntOf, hf]
      rw [MapKept.run_setObj_map _ hb1]
      simp [hm, setBlock]
  · have e1 : (Instr.lookup 44 (.map (some b)) (triV x) true).run Try.prog w = .ok (.tuple #[e0.val, .bool true]) w := by
      simp [Instr.lookup, run_underlying ht, MapKept.run_getObj_map hb, triLaw.check w _ hkey, h1, Result.andThen]
    rw [hlk] at e1
    simp at e1
end Go.Proofs.Ytbpnkcjaekbcdaa
