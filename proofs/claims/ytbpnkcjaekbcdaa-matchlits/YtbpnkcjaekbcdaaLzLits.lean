/-
  Bytes of which no three stand twice side by side, parsed (of no program).
-/
import Derived.Test.YtbpnkcjaekbcdaaLz
namespace Go.Proofs.Ytbpnkcjaekbcdaa

def cnt (b : List UInt8) (k : Nat) (x : UInt8 × UInt8 × UInt8) : Option Int := if 0 ≤ lastP b x k then some 1 else none
theorem cnt_next (b : List UInt8) (k : Nat) (x : UInt8 × UInt8 × UInt8) (h : tri b k = some x) (y : UInt8 × UInt8 × UInt8) : (if y = x then some 1 else cnt b k y) = cnt b (k + 1) y := by
  unfold cnt
  rw [lastP, h]
  by_cases e : y = x
  · subst e
    simp
  · rw [if_neg e, if_neg (fun h => e (Option.some.inj h).symm)]
def Apart (b : List UInt8) (k : Nat) : Prop := ∀ j x, j < k → tri b j = some x → lastP b x j < 0
theorem tokAt_lits (b : List UInt8) (win p : Nat) (h : Apart b (p + 1)) : tokAt b win p = litT (b.getD p 0) := by
  unfold tokAt
  have := best_same b p 0 (min win p) (fun j h1 h2 => .inl (by
    by_cases hm : 3 ≤ mlen b p (p - j)
    · obtain ⟨e1, e2⟩ := mlen_tri hm
      obtain ⟨x, hx⟩ := Option.ne_none_iff_exists'.1 e2
      have hl := h p x (by omega) hx
      exact absurd (e1.trans hx) (lastP_none b x p (p - j) (by omega) (by omega))
    · omega))
  rw [Nat.zero_add] at this
  rw [this, best]
theorem parseFrom_lits (b : List UInt8) (win : Nat) (h : ∀ k, Apart b k) : ∀ f p, b.length ≤ p + f → parseFrom b win f p = (b.drop p).map litT
  | 0, p, hl => by rw [parseFrom, List.drop_eq_nil_of_le (by omega)]; rfl
  | f + 1, p, hl => by
    rw [parseFrom]
    split
    · rename_i hp
      rw [tokAt_lits b win p (h _), show tsize (litT (b.getD p 0)) = 1 from rfl, parseFrom_lits b win h f _ (by omega), List.drop_eq_getElem_cons hp, List.getD_eq_getElem?_getD, List.getElem?_eq_getElem hp]
      rfl
    · rw [List.drop_eq_nil_of_le (by omega)]
      rfl
theorem parse_lits (b : List UInt8) (win : Int) (hw : 1 ≤ win ∧ win ≤ 32768) (h : ∀ k, Apart b k) : parse b win = b.map litT := by
  rw [parse, if_pos hw, parseFrom_lits b _ h _ _ (by omega), List.drop_zero]
theorem Apart.next {b : List UInt8} {k : Nat} (h : Apart b k) {x : UInt8 × UInt8 × UInt8} (hx : tri b k = some x) (hl : lastP b x k < 0) : Apart b (k + 1) := fun j y hj hy => by
  by_cases e : j < k
  · exact h j y e hy
  · obtain rfl : j = k := by omega
    rw [hx] at hy
    injection hy with hy
    subst hy
    exact hl
theorem Apart.all {b : List UInt8} {k : Nat} (h : Apart b k) (hk : b.length < k + 3) (m : Nat) : Apart b m := fun j x _ hx => by
  by_cases e : j < k
  · exact h j x e hx
  · rw [tri, first3_none (by rw [List.length_drop]; omega)] at hx
    cases hx
end Go.Proofs.Ytbpnkcjaekbcdaa
