/-
  What is parsed is expanded to what it was (of no program).
-/
import Derived.Test.YtibofgokdjbomaaLz
namespace Go.Proofs.Ytibofgokdjbomaa
set_option maxRecDepth 1000000

theorem copy_take (b : List UInt8) (p j : Nat) (h1 : 1 ≤ j) (h2 : j ≤ p) : ∀ m, m ≤ mlen b p (p - j) → p ≤ b.length → copyS j (b.take p) m = b.take (p + m)
  | 0, _, _ => rfl
  | m + 1, h, hp => by
    have ih := copy_take b p j h1 h2 m (by omega) hp
    obtain ⟨e1, e2⟩ := mlen_at b p (p - j) m (by omega)
    have hl : (b.take (p + m)).length = p + m := by rw [List.length_take]; omega
    rw [copyS, ih, hl, ← Nat.add_assoc, List.take_succ_eq_append_getElem e2]
    congr 2
    rw [List.getD_eq_getElem?_getD, List.getElem?_take, if_pos (by omega), show p + m - j = p - j + m by omega, e1, List.getElem?_eq_getElem e2]
    rfl
/-- What the token at p is. -/
theorem tokAt_is (b : List UInt8) (win p : Nat) (hp : p < b.length) (hw : win ≤ 32768) : right (tokAt b win p) = true ∧ (tokAt b win p).back ≤ win ∧ (tokAt b win p).back ≤ p ∧ putTok (b.take p) (tokAt b win p) = b.take (p + (tsize (tokAt b win p)).toNat) := by
  unfold tokAt
  rcases best_is b p (min win p) with h | ⟨j, h1, h2, h3, h4⟩
  · rw [h]
    refine ⟨right_lit _, by simp only [litT]; omega, by simp only [litT]; omega, ?_⟩
    show b.take p ++ [b.getD p 0] = b.take (p + (max 1 0 : Int).toNat)
    rw [show (max 1 0 : Int).toNat = 1 from rfl, List.take_succ_eq_append_getElem hp, List.getD_eq_getElem?_getD, List.getElem?_eq_getElem hp]
    rfl
  · rw [h4]
    have hm := mlen_le b p (p - j)
    rw [nextOf_len] at hm
    refine ⟨?_, by simp only; omega, by simp only; omega, ?_⟩
    · unfold right
      simp only
      rw [if_neg (by omega)]
      simp
      omega
    · unfold putTok tsize
      simp only
      rw [if_neg (by omega), Int.toNat_natCast, Int.toNat_natCast, copy_take b p j h1 (by omega) _ (Nat.le_refl _) (by omega)]
      congr 1
      omega
theorem parseFrom_right (b : List UInt8) (win : Nat) (hw : win ≤ 32768) : ∀ f p, ∀ t ∈ parseFrom b win f p, right t = true ∧ t.back ≤ win
  | 0, p, t, h => by cases h
  | f + 1, p, t, h => by
    rw [parseFrom] at h
    split at h
    · rename_i hp
      rcases List.mem_cons.1 h with rfl | h
      · exact ⟨(tokAt_is b win p hp hw).1, (tokAt_is b win p hp hw).2.1⟩
      · exact parseFrom_right b win hw f _ t h
    · cases h
theorem expand_back (b : List UInt8) (win : Nat) (hw : win ≤ 32768) (hl : b.length ≤ 65536) : ∀ f p, b.length ≤ p + f → p ≤ b.length → expandFrom (b.take p) (parseFrom b win f p) = (b, 0)
  | 0, p, h, hp => by rw [parseFrom, expandFrom, List.take_of_length_le (by omega)]
  | f + 1, p, h, hp => by
    rw [parseFrom]
    split
    · rename_i hlt
      obtain ⟨h1, h2, h3, h4⟩ := tokAt_is b win p hlt hw
      have hb := best_len b p (min win p)
      rw [nextOf_len] at hb
      have hlen : (b.take p).length = p := by rw [List.length_take]; omega
      have hts : 1 ≤ tsize (tokAt b win p) ∧ (p : Int) + tsize (tokAt b win p) ≤ b.length := by unfold tsize tokAt; omega
      rw [expandFrom, if_neg (by rw [h1, hlen]; simp; omega), if_neg (by rw [hlen]; omega), h4]
      exact expand_back b win hw hl f _ (by omega) (by omega)
    · rw [expandFrom, List.take_of_length_le (by omega)]
theorem parse_back (b : List UInt8) (win : Int) (hw : 1 ≤ win ∧ win ≤ 32768) (hl : b.length ≤ 65536) : expand (parse b win) = (b, 0) ∧ ∀ t ∈ parse b win, right t = true ∧ t.back ≤ win := by
  have e : parse b win = parseFrom b win.toNat b.length 0 := by rw [parse, if_pos hw]
  rw [e]
  refine ⟨expand_back b win.toNat (by omega) hl b.length 0 (by omega) (Nat.zero_le _), fun t ht => ?_⟩
  have := parseFrom_right b win.toNat (by omega) b.length 0 t ht
  exact ⟨this.1, by omega⟩
end Go.Proofs.Ytibofgokdjbomaa
