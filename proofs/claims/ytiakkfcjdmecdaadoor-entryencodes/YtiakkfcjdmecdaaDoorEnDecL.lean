/-
  Layer 13's bytes read: what holds of a reader's states, entry by entry (of no program).
-/
import Derived.Test.YtiakkfcjdmecdaaDoorEnDecO
import Derived.Test.YtiakkfcjdmecdaaDoorEnDecF
namespace Go.Proofs.YtiakkfcjdmecdaaDoor
set_option maxRecDepth 1000000
open Go.RowKit

theorem textOf_len (l : List UInt8) (x most : Int) : (textOf l x most).1.length ≤ l.length := Nat.le_trans (O.takeOf_len _ _ _) (O.numOf_len _ _ _)
theorem num_rest {l l' : List UInt8} (h : l'.length ≤ l.length) (x most : Int) : (O.numOf l' x most).2.1.length ≤ l.length := Nat.le_trans (O.numOf_len _ _ _) h
theorem entOf_texts (s : St) : (entOf s).1.path.length ≤ s.1.length ∧ (entOf s).1.to.length ≤ s.1.length := by
  simp only [entOf]
  refine ⟨Nat.le_trans (textOf_len _ _ _) ?_, Nat.le_trans (textOf_len _ _ _) (Nat.le_trans (textOf_rest _ _ _) ?_)⟩
  all_goals exact num_rest (num_rest (num_rest (num_rest (O.numOf_len _ _ _) _ _) _ _) _ _) _ _
theorem entsOf_add : ∀ (j k : Nat) (s : St), entsOf (j + k) s = ((entsOf j s).1 ++ (entsOf k (entsOf j s).2).1, (entsOf k (entsOf j s).2).2)
  | 0, k, s => by simp [entsOf]
  | j + 1, k, s => by
    have h := entsOf_add j k (entOf s).2
    rw [show j + 1 + k = (j + k) + 1 by omega]
    show ((entOf s).1 :: (entsOf (j + k) (entOf s).2).1, (entsOf (j + k) (entOf s).2).2) = _
    rw [h]; rfl
theorem entsOf_snoc (j : Nat) (s : St) : entsOf (j + 1) s = ((entsOf j s).1 ++ [(entOf (entsOf j s).2).1], (entOf (entsOf j s).2).2) := by
  rw [entsOf_add j 1 s]; rfl
theorem entsOf_bad {j n : Nat} {s : St} (h : j ≤ n) (hb : (entsOf j s).2.2 ≠ 0) : (entsOf n s).2.2 ≠ 0 := by
  intro h0
  obtain ⟨k, rfl⟩ := Nat.exists_eq_add_of_le h
  rw [entsOf_add] at h0
  exact hb (entsOf_back k _ h0).1
theorem entsOf_rest : ∀ (n : Nat) (s : St), (entsOf n s).2.1.length ≤ s.1.length
  | 0, _ => Nat.le_refl _
  | n + 1, s => Nat.le_trans (entsOf_rest n (entOf s).2) (entOf_rest s)
theorem Lens.more {l : List En} {m n : Nat} (h : Lens l m) (hn : m ≤ n) : Lens l n := fun e he => ⟨Nat.le_trans (h e he).1 hn, Nat.le_trans (h e he).2 hn⟩
theorem entsOf_lens : ∀ (n : Nat) (s : St), Lens (entsOf n s).1 s.1.length
  | 0, _ => fun e he => by simp [entsOf] at he
  | n + 1, s => by
    intro e he
    have he' : e ∈ (entOf s).1 :: (entsOf n (entOf s).2).1 := he
    rcases List.mem_cons.1 he' with rfl | he
    · exact entOf_texts s
    · exact (entsOf_lens n (entOf s).2).more (entOf_rest s) e he
theorem numOf_few (l : List UInt8) (x most : Int) (hm : 0 ≤ most) : ((O.numOf l x most).1 : Int) ≤ most := by
  unfold O.numOf
  split
  · split
    · split
      · simpa using hm
      · rename_i h
        show ((O.first l).1 : Int) ≤ most
        omega
    · simpa using hm
  · simpa using hm
theorem listOf_lens (b : List UInt8) : Lens (listOf b).1 b.length := (entsOf_lens _ _).more (O.numOf_len b 0 1024)
theorem listOf_few (b : List UInt8) : (listOf b).1.length ≤ 1024 := by
  have := numOf_few b 0 1024 (by decide)
  have h := entsOf_len (O.numOf b 0 1024).1 (O.numOf b 0 1024).2
  rw [show (listOf b).1 = (entsOf (O.numOf b 0 1024).1 (O.numOf b 0 1024).2).1 from rfl, h]
  omega
theorem numOf_err (l : List UInt8) (x most : Int) (h : (O.numOf l x most).2.2 ≠ 0) : (O.numOf l x most).1 = 0 := by
  unfold O.numOf at h ⊢
  split
  · split
    · split
      · rfl
      · rename_i h1 h2 h3
        rw [if_pos h1, if_pos h2, if_neg h3] at h
        exact absurd rfl h
    · rfl
  · rfl
end Go.Proofs.YtiakkfcjdmecdaaDoor
