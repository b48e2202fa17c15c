/-
  copy of cells of any kind (of one cell each) into a block of which the room is known (of no layer).
-/
import Derived.Test.YtjcbdplbekecjaaCommon
import Derived.Test.YtjcbdplbekecjaaRow
namespace Go.Proofs.Ytjcbdplbekecjaa
open Go.RowKit

section
variable {P : Program}
theorem run_copy_gen (w : World) (sT ty e : TypeId) (hu : P.underlying sT = some (.slice e)) (hs : (P.info? e).map (·.size) = some 1) (g off dLen dCap : Nat) (u : Value) (xs : List Value) (hr : Rd w u xs) (h1 : ∀ x ∈ xs, x.oneCell' = true) (cur : List Value) (t : TypeId) (hg : Row w g t cur) (hfit : off + dLen ≤ cur.length) :
    ∃ w', (Builtin.copy_ #[sT, sT] ty #[.slice (some ⟨g, off, none⟩) dLen dCap, u]).run P w = .ok (.int .i64 ((min xs.length dLen : Nat) : Int)) w' ∧ Row w' g t (splice cur off (xs.take dLen)) ∧ w.grownBy w' (some g) := by
  obtain ⟨A, c, rfl, hlc, hcm, hcell⟩ := hr
  cases A with
  | none =>
    have hn : xs = [] := by
      rcases xs with _ | ⟨x, l⟩
      · rfl
      · obtain ⟨ad, h, _⟩ := hcell (by simp); cases h
    subst hn
    refine ⟨w, ?_, ?_, grown_refl _ _⟩
    · cases hq : P.info? e with
      | none => simp [hq] at hs
      | some i =>
        have hi : i.size = 1 := by simpa [hq] using hs
        simp [Builtin.copy_, run_underlying hu, Builtin.lenOf, Builtin.firstCells, sizeOf, typeInfo, hq, storeCells, goInt]
    · have e : splice cur off (([] : List Value).take dLen) = cur := by simp [splice]
      rw [e]
      exact hg
  | some ad =>
    have hcells : ∀ j v, (xs.take dLen)[j]? = some v → w.cell? (ad.add j) = some v := by
      intro j v hv
      have hv' : xs[j]? = some v := by
        rw [List.getElem?_take] at hv
        split at hv
        · exact hv
        · cases hv
      have hne : xs ≠ [] := by intro e; rw [e] at hv'; cases hv'
      obtain ⟨ad', h, hc⟩ := hcell hne
      injection h with h
      subst h
      exact hc j v hv'
    have hlen : (xs.take dLen).length = Nat.min xs.length dLen := by
      rw [List.length_take, Nat.min_comm]
    have hrun := run_copy_row (P := P) w sT sT ty e g off dLen dCap ad xs.length c cur.toArray t (xs.take dLen) hu hs hg hlen hcells (by
      have : (xs.take dLen).length ≤ dLen := by rw [hlen]; exact Nat.min_le_right _ _
      simp only [List.size_toArray]; omega) (fun v hv => h1 v (List.mem_of_mem_take hv))
    have e : cur.toArray.toList.take off ++ xs.take dLen ++ cur.toArray.toList.drop (off + (xs.take dLen).length) = splice cur off (xs.take dLen) := by simp [splice]
    rw [e, hlen, show Nat.min xs.length dLen = min xs.length dLen from rfl] at hrun
    exact ⟨w.setRow g (splice cur off (xs.take dLen)).toArray, hrun, Row.setRow hg _, grown_setRow w g _⟩
theorem splice_zero (cur xs : List Value) : splice cur 0 xs = xs ++ cur.drop xs.length := by simp [splice]
end
end Go.Proofs.Ytjcbdplbekecjaa
