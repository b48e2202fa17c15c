/-
  What a ring holds, as mathematics (of no program): the row of all that was put, and the places where the last of them stand.
-/
namespace Go.Proofs.Ytnbeakpmglefmaa

/-- Of all that was put (L), in a ring with room for R, the places hold xs. -/
def HeldIn {T : Type} (R : Nat) (L xs : List T) : Prop :=
  xs.length = min L.length R ∧ ∀ i, L.length ≤ i + R → i < L.length → xs[i % R]? = L[i]?

theorem HeldIn.nil {T : Type} (R : Nat) : HeldIn R ([] : List T) [] := ⟨by simp, fun i _ h => by simp at h⟩

theorem HeldIn.grow {T : Type} {R : Nat} {L xs : List T} (h : HeldIn R L xs) (x : T) (hl : xs.length < R) : HeldIn R (L ++ [x]) (xs ++ [x]) := by
  obtain ⟨h1, h2⟩ := h
  have hL : xs.length = L.length ∧ L.length < R := by omega
  refine ⟨by simp; omega, fun i hi hi2 => ?_⟩
  simp only [List.length_append, List.length_cons, List.length_nil] at hi hi2
  rw [Nat.mod_eq_of_lt (by omega)]
  by_cases he : i = L.length
  · subst he
    rw [← hL.1]
    simp
    rw [hL.1]; simp
  · have := h2 i (by omega) (by omega)
    rw [Nat.mod_eq_of_lt (by omega)] at this
    rw [List.getElem?_append_left (by omega), List.getElem?_append_left (by omega), this]

theorem HeldIn.full {T : Type} {R : Nat} {L xs : List T} (h : HeldIn R L xs) (x : T) (hl : ¬ xs.length < R) (hR : 0 < R) :
    L.length % R < xs.length ∧ R ≤ L.length ∧ xs[L.length % R]? = L[L.length - R]? ∧ HeldIn R (L ++ [x]) (xs.set (L.length % R) x) := by
  obtain ⟨h1, h2⟩ := h
  have hL : xs.length = R ∧ R ≤ L.length := by omega
  have hm : L.length % R < R := Nat.mod_lt _ hR
  refine ⟨by omega, hL.2, ?_, by simp; omega, fun i hi hi2 => ?_⟩
  · have := h2 (L.length - R) (by omega) (by omega)
    rw [← this, ← Nat.mod_eq_sub_mod hL.2]
  · simp only [List.length_append, List.length_cons, List.length_nil] at hi hi2
    by_cases he : i = L.length
    · subst he
      rw [List.getElem?_set_self (by omega)]
      simp
    · have hne : L.length % R ≠ i % R := by
        intro e
        have a1 := Nat.div_add_mod L.length R
        have a2 := Nat.div_add_mod i R
        rw [e] at a1
        have : L.length - i = R * (L.length / R) - R * (i / R) := by omega
        rw [← Nat.mul_sub] at this
        have hd : L.length / R - i / R = 0 := by
          rcases Nat.eq_zero_or_pos (L.length / R - i / R) with h | h
          · exact h
          · have : R * 1 ≤ R * (L.length / R - i / R) := Nat.mul_le_mul_left R h
            omega
        rw [hd] at this
        omega
      rw [List.getElem?_set_ne hne, h2 i (by omega) (by omega), List.getElem?_append_left (by omega)]

theorem HeldIn.none {T : Type} {L xs : List T} (h : HeldIn 0 L xs) (x : T) : HeldIn 0 (L ++ [x]) xs := by
  obtain ⟨h1, _⟩ := h
  exact ⟨by simpa using h1, fun i hi hi2 => by simp only [List.length_append, List.length_cons, List.length_nil] at hi hi2; omega⟩

theorem HeldIn.at_ {T : Type} {R : Nat} {L xs : List T} (h : HeldIn R L xs) (age : Nat) (ha : age < xs.length) :
    (L.length - 1 - age) % R < xs.length ∧ xs[(L.length - 1 - age) % R]? = L[L.length - 1 - age]? := by
  obtain ⟨h1, h2⟩ := h
  have := h2 (L.length - 1 - age) (by omega) (by omega)
  refine ⟨?_, this⟩
  rw [List.getElem?_eq_getElem (show L.length - 1 - age < L.length by omega)] at this
  exact (List.getElem?_eq_some_iff.1 this).1

/-- What there is of an age. -/
def agedIn {T : Type} (z : T) (R : Nat) (L : List T) (age : Int) : T × Bool :=
  if 0 ≤ age ∧ age < (min L.length R : Nat) then (L.getD (L.length - 1 - age.toNat) z, true) else (z, false)
theorem agedIn_in {T : Type} (z : T) (R : Nat) (L : List T) (k : Nat) (h : k < min L.length R) : agedIn z R L (k : Int) = (L.getD (L.length - 1 - k) z, true) := by
  unfold agedIn
  rw [if_pos (by omega)]
  simp
theorem agedIn_out {T : Type} (z : T) (R : Nat) (L : List T) (age : Int) (h : ¬ (0 ≤ age ∧ age < (min L.length R : Nat))) : agedIn z R L age = (z, false) := by
  unfold agedIn
  rw [if_neg h]
/-- What is driven out when a thing is put. -/
def outIn {T : Type} (z : T) (R : Nat) (L : List T) (x : T) : T × Bool :=
  if L.length < R then (z, false) else ((L ++ [x]).getD (L.length - R) z, true)
end Go.Proofs.Ytnbeakpmglefmaa
