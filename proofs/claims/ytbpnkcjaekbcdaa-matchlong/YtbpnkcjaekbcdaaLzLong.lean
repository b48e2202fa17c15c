/-
  A row of one byte, parsed (of no program).
-/
import Derived.Test.YtbpnkcjaekbcdaaLz
namespace Go.Proofs.Ytbpnkcjaekbcdaa

theorem mlen_long (c : UInt8) (n p r : Nat) (hr : r < p) (hp : p < n) : mlen (List.replicate n c) p r = min 258 (n - p) := by
  have hl := nextOf_len (List.replicate n c) p
  rw [List.length_replicate] at hl
  rw [← hl]
  refine alikeN_all _ _ (by rw [hl, List.length_drop, List.length_replicate]; omega) (fun j hj => ?_)
  rw [List.getElem?_drop, nextOf_at _ _ _ (by omega), List.getElem?_replicate, List.getElem?_replicate, if_pos (by omega), if_pos (by omega)]
theorem tokAt_long (c : UInt8) (n win p : Nat) (hw : 1 ≤ win) (h1 : 1 ≤ p) (hp : p < n) : tokAt (List.replicate n c) win p = if 3 ≤ n - p then ⟨0, (min 258 (n - p) : Nat), 1⟩ else litT c := by
  have hg : (List.replicate n c).getD p 0 = c := by rw [List.getD_eq_getElem?_getD, List.getElem?_replicate, if_pos hp]; rfl
  have hm : ∀ r, r < p → mlen (List.replicate n c) p r = min 258 (n - p) := fun r hr => mlen_long c n p r hr hp
  unfold tokAt
  obtain ⟨k, hk⟩ : ∃ k, min win p = 1 + k := ⟨min win p - 1, by omega⟩
  rw [hk]
  have e1 : best (List.replicate n c) p 1 = if 3 ≤ n - p then ⟨0, (min 258 (n - p) : Nat), 1⟩ else litT c := by
    rw [best, best, hm _ (by omega), hg]
    by_cases h : 3 ≤ n - p
    · rw [if_pos h, if_pos ⟨by omega, by simp only [litT]; omega⟩]
      rfl
    · rw [if_neg h, if_neg (fun hh => by omega)]
  rw [best_same _ p 1 k (fun j hj1 hj2 => ?_), e1]
  rw [hm _ (by omega), e1]
  by_cases h : 3 ≤ n - p
  · rw [if_pos h]; exact .inr (Int.le_refl _)
  · exact .inl (by omega)
theorem tokAt_zero (c : UInt8) (n win : Nat) (hp : 0 < n) : tokAt (List.replicate n c) win 0 = litT c := by
  unfold tokAt
  rw [Nat.min_zero, best, List.getD_eq_getElem?_getD, List.getElem?_replicate, if_pos hp]
  rfl
end Go.Proofs.Ytbpnkcjaekbcdaa
