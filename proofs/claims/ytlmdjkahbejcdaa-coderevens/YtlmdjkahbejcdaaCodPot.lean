/-
  Layer 10's words: how many bytes bits of no chance take (of no program).
-/
import Derived.Test.YtlmdjkahbejcdaaCod
namespace Go.Proofs.Ytlmdjkahbejcdaa

/-- Behind e bits of no chance. -/
def Pot (s : Cst) (e : Nat) : Prop := ∃ j, j ≤ 7 ∧ 2147483648 / 2 ^ j ≤ s.width ∧ 8 * s.out.length + j ≤ e
theorem pot_begin : Pot beginS 0 := ⟨0, by decide, by decide, by decide⟩
theorem wid_pot {s : Cst} {e j : Nat} (hj : j ≤ 8) (hw : 2147483648 / 2 ^ j ≤ s.width) (he : 8 * s.out.length + j ≤ e) (h8 : j = 8 → 8388608 ≤ s.width) : Pot (wid s) (e) := by
  unfold wid
  split
  · rename_i hlt
    have : j = 8 := by
      rcases j with _ | _ | _ | _ | _ | _ | _ | _ | _ | j
      all_goals first | rfl | omega | (simp at hw; omega)
    subst this
    have := h8 rfl
    refine ⟨0, by decide, ?_, ?_⟩
    · show _ ≤ s.width * 256
      simp
      omega
    · simp [tellS]
      omega
  · rename_i hge
    by_cases h : j ≤ 7
    · exact ⟨j, h, hw, he⟩
    · have : j = 8 := by omega
      subst this
      exact ⟨7, by decide, by simp; omega, by omega⟩
theorem even_pot {s : Cst} {e : Nat} (h : Pot s e) (b : Bool) : Pot (putS s (s.width / 2) b) (e + 1) := by
  obtain ⟨j, hj, hw, he⟩ := h
  have hhalf : 2147483648 / 2 ^ (j + 1) ≤ s.width / 2 := by
    rw [Nat.pow_succ, ← Nat.div_div_eq_div_mul]
    exact Nat.div_le_div_right hw
  have h8 : j + 1 = 8 → 8388608 ≤ s.width / 2 := by
    intro e
    have : j = 7 := by omega
    subst this
    simpa using hhalf
  unfold putS
  split
  · refine wid_pot (j := j + 1) (by omega) ?_ ?_ ?_
    · show _ ≤ s.width - s.width / 2
      omega
    · show 8 * List.length (if _ then incr s.out else s.out) + _ ≤ _
      split
      · rw [incr_len]; omega
      · omega
    · intro e
      show _ ≤ s.width - s.width / 2
      have := h8 e
      omega
  · exact wid_pot (j := j + 1) (by omega) hhalf (by show 8 * s.out.length + _ ≤ _; omega) h8
theorem evenS_pot (n : Int) : ∀ (k : Nat) {s : Cst} {e : Nat}, Pot s e → Pot (evenS s n k) (e + k)
  | 0, _, _, h => h
  | k + 1, s, e, h => by
    have := evenS_pot n k (even_pot h (bitAt n k))
    rw [show e + 1 + k = e + (k + 1) by omega] at this
    exact this
theorem pot_len {s : Cst} {e : Nat} (h : Pot s e) : 8 * s.out.length ≤ e := by
  obtain ⟨j, _, _, h⟩ := h
  omega
theorem bit_shift (n : Int) (k : Nat) : bitAt (n / 2 ^ k) 0 = bitAt n k := by
  unfold bitAt
  simp
/-- Bits put one by one. -/
theorem even_one (s : Cst) (n : Int) (k : Nat) : evenS s (n / 2 ^ k) 1 = putS s (s.width / 2) (bitAt n k) := by
  show evenS (putS s (s.width / 2) (bitAt (n / 2 ^ k) 0)) (n / 2 ^ k) 0 = _
  rw [bit_shift]
  rfl
end Go.Proofs.Ytlmdjkahbejcdaa
