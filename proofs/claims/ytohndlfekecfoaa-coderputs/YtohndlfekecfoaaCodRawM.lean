/-
  Layer 10's words: what taking bits of any bytes tells (of no program).
-/
import Derived.Test.YtohndlfekecfoaaCodR
namespace Go.Proofs.Ytohndlfekecfoaa
set_option maxRecDepth 1000000

/-- r is r0, or behind it. -/
def Beh (r0 r : Rst) : Prop := r.rest.length ≤ r0.rest.length ∧ (r0.short = true → r.short = true) ∧ (Sho r0 → Sho r)
theorem Beh.refl (r : Rst) : Beh r r := ⟨Nat.le_refl _, fun h => h, fun h => h⟩
theorem Beh.trans {a b c : Rst} (h : Beh a b) (k : Beh b c) : Beh a c := ⟨Nat.le_trans k.1 h.1, fun x => k.2.1 (h.2.1 x), fun x => k.2.2 (h.2.2 x)⟩
theorem nextR_beh (r : Rst) : Beh r (nextR r) := by
  refine ⟨nextR_len r, fun h => ?_, nextR_sho⟩
  unfold nextR
  split
  · rfl
  · exact h
theorem widR_beh (r : Rst) : Beh r (widR r) := by
  unfold widR
  split
  · exact nextR_beh r
  · exact Beh.refl r
theorem takeR_beh (r : Rst) (bound : Nat) : Beh r (takeR r bound).2 := by
  unfold takeR
  split
  · exact widR_beh ⟨r.rest, r.num, bound, r.short⟩
  · exact widR_beh ⟨r.rest, r.num - bound, r.width - bound, r.short⟩
theorem evenR_beh : ∀ (k : Nat) (r : Rst) (n : Nat), Beh r (evenR r n k).2
  | 0, r, _ => Beh.refl r
  | k + 1, r, _ => (takeR_beh r _).trans (evenR_beh k _ _)
theorem treeR_beh : ∀ (k : Nat) (r : Rst) (L : List Nat) (p : Nat), Beh r (treeR r L k p).2.1
  | 0, r, _, _ => Beh.refl r
  | k + 1, r, _, _ => (takeR_beh r _).trans (treeR_beh k _ _ _)
theorem evenR_ok : ∀ (k : Nat) (r : Rst) (n : Nat), Okr r → Okr (evenR r n k).2
  | 0, _, _, h => h
  | k + 1, _, _, h => evenR_ok k _ _ (takeR_ok h (evenB_ok h).1 (evenB_ok h).2)
theorem evenR_lt : ∀ (k : Nat) (r : Rst) (n : Nat), (evenR r n k).1 < (n + 1) * 2 ^ k
  | 0, _, n => by show n < (n + 1) * 1; omega
  | k + 1, r, n => by
    have h := evenR_lt k (takeR r (r.width / 2)).2 (2 * n + (takeR r (r.width / 2)).1.toNat)
    have hb : (takeR r (r.width / 2)).1.toNat ≤ 1 := by cases (takeR r (r.width / 2)).1 <;> decide
    have h2 : (2 * n + (takeR r (r.width / 2)).1.toNat + 1) * 2 ^ k ≤ (2 * (n + 1)) * 2 ^ k := Nat.mul_le_mul_right _ (by omega)
    have h3 : (n + 1) * 2 ^ (k + 1) = (2 * (n + 1)) * 2 ^ k := by rw [Nat.pow_succ, Nat.mul_comm (2 ^ k) 2, ← Nat.mul_assoc, Nat.mul_comm (n + 1) 2]
    show (evenR _ _ k).1 < _
    omega
theorem treeR_ok : ∀ (k : Nat) (r : Rst) (L : List Nat) (p : Nat), Okr r → Okl L → (p + 1) * 2 ^ k ≤ 2 * L.length → Okr (treeR r L k p).2.1 ∧ Okl (treeR r L k p).2.2 ∧ (treeR r L k p).2.2.length = L.length
  | 0, _, _, _, h, hl, _ => ⟨h, hl, rfl⟩
  | k + 1, r, L, p, h, hl, hp => by
    obtain ⟨h1, h2, h3⟩ := bitR_ok h hl (tree_lt hp)
    obtain ⟨k1, k2, k3⟩ := treeR_ok k _ _ (2 * p + (bitR r L p).1.toNat) h1 h2 (by rw [h3]; exact tree_next _ hp)
    exact ⟨k1, k2, k3.trans h3⟩
theorem treeR_range : ∀ (k : Nat) (r : Rst) (L : List Nat) (p : Nat), p * 2 ^ k ≤ (treeR r L k p).1 ∧ (treeR r L k p).1 < (p + 1) * 2 ^ k
  | 0, _, _, p => ⟨by show p * 1 ≤ p; omega, by show p < (p + 1) * 1; omega⟩
  | k + 1, r, L, p => by
    obtain ⟨h1, h2⟩ := treeR_range k (bitR r L p).2.1 (bitR r L p).2.2 (2 * p + (bitR r L p).1.toNat)
    have hb : (bitR r L p).1.toNat ≤ 1 := by cases (bitR r L p).1 <;> decide
    have e1 : p * 2 ^ (k + 1) = (2 * p) * 2 ^ k := by rw [Nat.pow_succ, Nat.mul_comm (2 ^ k) 2, ← Nat.mul_assoc, Nat.mul_comm p 2]
    have e2 : (p + 1) * 2 ^ (k + 1) = (2 * (p + 1)) * 2 ^ k := by rw [Nat.pow_succ, Nat.mul_comm (2 ^ k) 2, ← Nat.mul_assoc, Nat.mul_comm (p + 1) 2]
    have e3 : (2 * p) * 2 ^ k ≤ (2 * p + (bitR r L p).1.toNat) * 2 ^ k := Nat.mul_le_mul_right _ (by omega)
    have e4 : (2 * p + (bitR r L p).1.toNat + 1) * 2 ^ k ≤ (2 * (p + 1)) * 2 ^ k := Nat.mul_le_mul_right _ (by omega)
    show p * 2 ^ (k + 1) ≤ (treeR _ _ k _).1 ∧ (treeR _ _ k _).1 < _
    omega
theorem openN_rest (b : List UInt8) : (openN 4 b).rest.length = b.length - 4 ∧ (b.length < 4 → (openN 4 b).short = true) := by
  rcases b with _ | ⟨x0, _ | ⟨x1, _ | ⟨x2, _ | ⟨x3, t⟩⟩⟩⟩
  · exact ⟨rfl, fun _ => rfl⟩
  · exact ⟨rfl, fun _ => rfl⟩
  · exact ⟨rfl, fun _ => rfl⟩
  · exact ⟨rfl, fun _ => rfl⟩
  · refine ⟨?_, fun h => ?_⟩
    · show t.length = _
      simp
    · simp at h
      omega
end Go.Proofs.Ytohndlfekecfoaa
