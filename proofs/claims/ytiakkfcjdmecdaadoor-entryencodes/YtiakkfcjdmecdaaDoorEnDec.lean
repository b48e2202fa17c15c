/-
  Layer 13's bytes read: the mathematics (what a Reader's numbers and texts are, entry by entry).
-/
import Derived.Test.YtiakkfcjdmecdaaDoorEnEncR
import Derived.Test.YtiakkfcjdmecdaaDoorEnFine
import Derived.Test.YtiakkfcjdmecdaaDoorMOct
namespace Go.Proofs.YtiakkfcjdmecdaaDoor
set_option maxRecDepth 1000000
open Go.RowKit

/-- A reader's state: what is left, and the error. -/
abbrev St := List UInt8 × Int
/-- A text of at most so many bytes, what is left, and the error. -/
def textOf (l : List UInt8) (x most : Int) : List UInt8 × List UInt8 × Int := O.takeOf (O.numOf l x most).2.1 (O.numOf l x most).2.2 (O.numOf l x most).1
theorem numOf_back {l : List UInt8} {x most : Int} (h : (O.numOf l x most).2.2 = 0) : x = 0 ∧ l = enc (O.numOf l x most).1 ++ (O.numOf l x most).2.1 ∧ ((O.numOf l x most).1 : Int) ≤ most ∧ (O.numOf l x most).1 ≤ 1099511627775 := by
  unfold O.numOf at h ⊢
  by_cases hx : x = 0
  · rw [if_pos hx] at h ⊢
    by_cases h1 : (O.first l).2.2 = 0
    · rw [if_pos h1] at h ⊢
      by_cases h2 : most < ((O.first l).1 : Int) ∨ 1099511627775 < (O.first l).1
      · rw [if_pos h2] at h; simp at h
      · rw [if_neg h2]
        obtain ⟨hb, _⟩ := O.first_back l h1
        refine ⟨hx, ?_, by simp only; omega, by simp only; omega⟩
        show l = enc (O.first l).1 ++ l.drop (O.first l).2.1
        rw [← hb, List.take_append_drop]
    · rw [if_neg h1] at h; exact absurd h h1
  · rw [if_neg hx] at h; exact absurd h hx
theorem numOf_enc (n : Nat) (r : List UInt8) (most : Int) (hn : n ≤ 1099511627775) (hm : (n : Int) ≤ most) : O.numOf (enc n ++ r) 0 most = (n, r, 0) := by
  unfold O.numOf
  rw [if_pos rfl, O.first_enc n r hn]
  simp only
  rw [if_pos trivial, if_neg (by omega), List.drop_left]
theorem takeOf_back {l : List UInt8} {x : Int} {n : Nat} (h : (O.takeOf l x n).2.2 = 0) : x = 0 ∧ l = (O.takeOf l x n).1 ++ (O.takeOf l x n).2.1 ∧ (O.takeOf l x n).1.length = n := by
  unfold O.takeOf at h ⊢
  by_cases hx : x = 0
  · rw [if_pos hx] at h ⊢
    by_cases h1 : n ≤ l.length
    · rw [if_pos h1]
      exact ⟨hx, by simp, by simp [List.length_take]; omega⟩
    · rw [if_neg h1] at h; simp at h
  · rw [if_neg hx] at h; exact absurd h hx
theorem textOf_back {l : List UInt8} {x most : Int} (h : (textOf l x most).2.2 = 0) : x = 0 ∧ l = textB (textOf l x most).1 ++ (textOf l x most).2.1 ∧ ((textOf l x most).1.length : Int) ≤ most := by
  unfold textOf at h ⊢
  obtain ⟨h1, h2, h3⟩ := takeOf_back h
  obtain ⟨k1, k2, k3, k4⟩ := numOf_back h1
  refine ⟨k1, ?_, by rw [h3]; exact k3⟩
  rw [textB, h3, List.append_assoc, ← h2, ← k2]
theorem textOf_enc (t r : List UInt8) (most : Int) (hn : t.length ≤ 1099511627775) (hm : (t.length : Int) ≤ most) : textOf (textB t ++ r) 0 most = (t, r, 0) := by
  unfold textOf textB
  rw [List.append_assoc, numOf_enc t.length (t ++ r) most hn hm]
  simp [O.takeOf]
theorem numB_nat (n : Nat) (h : n ≤ 1099511627775) : numB (n : Int) = enc n := by
  unfold numB norm
  rw [if_neg (by omega)]; simp
/-- One entry that is read. -/
def entOf (s : St) : En × St :=
  let a := O.numOf s.1 s.2 1099511627775
  let b := O.numOf a.2.1 a.2.2 1099511627775
  let c := O.numOf b.2.1 b.2.2 1099511627775
  let d := O.numOf c.2.1 c.2.2 1099511627775
  let e := O.numOf d.2.1 d.2.2 1099511627775
  let p := textOf e.2.1 e.2.2 256
  let t := textOf p.2.1 p.2.2 256
  (⟨p.1, a.1, b.1, c.1, t.1, d.1, e.1⟩, t.2)
theorem entOf_back {s : St} (h : (entOf s).2.2 = 0) : s.2 = 0 ∧ s.1 = entB (entOf s).1 ++ (entOf s).2.1 := by
  obtain ⟨s1, s2⟩ := s
  simp only [entOf] at h ⊢
  generalize ha : O.numOf s1 s2 1099511627775 = a at *
  generalize hb : O.numOf a.2.1 a.2.2 1099511627775 = b at *
  generalize hc : O.numOf b.2.1 b.2.2 1099511627775 = c at *
  generalize hd : O.numOf c.2.1 c.2.2 1099511627775 = d at *
  generalize he : O.numOf d.2.1 d.2.2 1099511627775 = e at *
  generalize hp : textOf e.2.1 e.2.2 256 = p at *
  generalize ht : textOf p.2.1 p.2.2 256 = t at *
  have t1 := textOf_back (by rw [ht]; exact h); rw [ht] at t1
  have p1 := textOf_back (by rw [hp]; exact t1.1); rw [hp] at p1
  have e1 := numOf_back (by rw [he]; exact p1.1); rw [he] at e1
  have d1 := numOf_back (by rw [hd]; exact e1.1); rw [hd] at d1
  have c1 := numOf_back (by rw [hc]; exact d1.1); rw [hc] at c1
  have b1 := numOf_back (by rw [hb]; exact c1.1); rw [hb] at b1
  have a1 := numOf_back (by rw [ha]; exact b1.1); rw [ha] at a1
  refine ⟨a1.1, ?_⟩
  simp only [entB, numsE, numsB, List.flatMap_cons, List.flatMap_nil, List.append_nil]
  rw [numB_nat _ a1.2.2.2, numB_nat _ b1.2.2.2, numB_nat _ c1.2.2.2, numB_nat _ d1.2.2.2, numB_nat _ e1.2.2.2]
  simp only [List.append_assoc]
  rw [← t1.2.1, ← p1.2.1, ← e1.2.1, ← d1.2.1, ← c1.2.1, ← b1.2.1, ← a1.2.1]
/-- Such that its numbers and texts may be read. -/
structure Wide (e : En) : Prop where
  kind : 0 ≤ e.kind ∧ e.kind ≤ 1099511627775
  mode : 0 ≤ e.mode ∧ e.mode ≤ 1099511627775
  time : 0 ≤ e.time ∧ e.time ≤ 1099511627775
  beg : 0 ≤ e.beg ∧ e.beg ≤ 1099511627775
  size : 0 ≤ e.size ∧ e.size ≤ 1099511627775
  path : e.path.length ≤ 256
  to : e.to.length ≤ 256
theorem entOf_enc (e : En) (r : List UInt8) (h : Wide e) : entOf (entB e ++ r, 0) = (e, (r, 0)) := by
  obtain ⟨p, k, m, t, to, b, z⟩ := e
  obtain ⟨h1, h2, h3, h4, h5, h6, h7⟩ := h
  simp only at h1 h2 h3 h4 h5 h6 h7
  obtain ⟨k, rfl⟩ := Int.eq_ofNat_of_zero_le h1.1
  obtain ⟨m, rfl⟩ := Int.eq_ofNat_of_zero_le h2.1
  obtain ⟨t, rfl⟩ := Int.eq_ofNat_of_zero_le h3.1
  obtain ⟨b, rfl⟩ := Int.eq_ofNat_of_zero_le h4.1
  obtain ⟨z, rfl⟩ := Int.eq_ofNat_of_zero_le h5.1
  simp only [entOf, entB, numsE, numsB, List.flatMap_cons, List.flatMap_nil, List.append_nil, List.append_assoc]
  rw [numB_nat k (by omega), numB_nat m (by omega), numB_nat t (by omega), numB_nat b (by omega), numB_nat z (by omega)]
  rw [numOf_enc k _ _ (by omega) (by omega)]
  simp only
  rw [numOf_enc m _ _ (by omega) (by omega)]
  simp only
  rw [numOf_enc t _ _ (by omega) (by omega)]
  simp only
  rw [numOf_enc b _ _ (by omega) (by omega)]
  simp only
  rw [numOf_enc z _ _ (by omega) (by omega)]
  simp only
  rw [textOf_enc p _ _ (by omega) (by omega)]
  simp only
  rw [textOf_enc to _ _ (by omega) (by omega)]
/-- So many entries that are read. -/
def entsOf : Nat → St → List En × St
  | 0, s => ([], s)
  | n + 1, s => ((entOf s).1 :: (entsOf n (entOf s).2).1, (entsOf n (entOf s).2).2)
theorem entsOf_back : ∀ (n : Nat) (s : St), (entsOf n s).2.2 = 0 → s.2 = 0 ∧ s.1 = entsB (entsOf n s).1 ++ (entsOf n s).2.1
  | 0, s, h => ⟨h, by simp [entsOf, entsB]⟩
  | n + 1, s, h => by
    have h' : (entsOf n (entOf s).2).2.2 = 0 := h
    obtain ⟨h1, h2⟩ := entsOf_back n _ h'
    obtain ⟨k1, k2⟩ := entOf_back h1
    refine ⟨k1, ?_⟩
    show s.1 = entsB ((entOf s).1 :: (entsOf n (entOf s).2).1) ++ (entsOf n (entOf s).2).2.1
    rw [show entsB ((entOf s).1 :: (entsOf n (entOf s).2).1) = entB (entOf s).1 ++ entsB (entsOf n (entOf s).2).1 from rfl, List.append_assoc, ← h2]
    exact k2
theorem entsOf_len : ∀ (n : Nat) (s : St), (entsOf n s).1.length = n
  | 0, _ => rfl
  | n + 1, s => by simp [entsOf, entsOf_len n]
theorem entsOf_enc : ∀ (l : List En) (r : List UInt8), (∀ e ∈ l, Wide e) → entsOf l.length (entsB l ++ r, 0) = (l, (r, 0))
  | [], r, _ => by simp [entsOf, entsB]
  | e :: l, r, h => by
    have h1 := entOf_enc e (entsB l ++ r) (h e List.mem_cons_self)
    have h2 := entsOf_enc l r (fun x hx => h x (List.mem_cons_of_mem _ hx))
    show ((entOf (entsB (e :: l) ++ r, 0)).1 :: (entsOf l.length (entOf (entsB (e :: l) ++ r, 0)).2).1, (entsOf l.length (entOf (entsB (e :: l) ++ r, 0)).2).2) = _
    rw [show entsB (e :: l) ++ r = entB e ++ (entsB l ++ r) by rw [← List.append_assoc]; rfl, h1, h2]
/-- The entries of which b is the bytes, what is left, and the error. -/
def listOf (b : List UInt8) : List En × St := entsOf (O.numOf b 0 1024).1 (O.numOf b 0 1024).2
theorem listOf_back {b : List UInt8} (h : (listOf b).2 = ([], 0)) : encE (listOf b).1 = b := by
  obtain ⟨h1, h2⟩ := entsOf_back (O.numOf b 0 1024).1 (O.numOf b 0 1024).2 (show (listOf b).2.2 = 0 by rw [h])
  obtain ⟨_, k2, k3, k4⟩ := numOf_back h1
  have hl := entsOf_len (O.numOf b 0 1024).1 (O.numOf b 0 1024).2
  unfold encE
  rw [show (listOf b).1.length = (O.numOf b 0 1024).1 from hl, numB_nat _ k4]
  have h3 : (entsOf (O.numOf b 0 1024).1 (O.numOf b 0 1024).2).2.1 = [] := by show (listOf b).2.1 = []; rw [h]
  rw [h3, List.append_nil] at h2
  show _ ++ entsB (entsOf (O.numOf b 0 1024).1 (O.numOf b 0 1024).2).1 = b
  rw [← h2, ← k2]
theorem listOf_enc (l : List En) (hl : l.length ≤ 1024) (h : ∀ e ∈ l, Wide e) : listOf (encE l) = (l, ([], 0)) := by
  unfold listOf encE
  rw [numB_nat _ (by omega), numOf_enc l.length _ _ (by omega) (by omega)]
  have := entsOf_enc l [] h
  rw [List.append_nil] at this
  exact this
end Go.Proofs.YtiakkfcjdmecdaaDoor
