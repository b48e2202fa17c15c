/-
  The mathematics of layer 12 (path), of no program: a text's parts, what may be a path, the order of paths.
-/
import Derived.Lib.SplitLaws
import Derived.Lib.Bytealg
namespace Go.Proofs.YtiakkfcjdmecdaaDoor
set_option maxRecDepth 1000000

/-- The parts of a text between its slashes. -/
def parts : List UInt8 → List (List UInt8)
  | [] => [[]]
  | c :: r => if c = 47 then [] :: parts r else match parts r with | p :: q => (c :: p) :: q | [] => [[c]]

theorem parts_ne (s : List UInt8) : parts s ≠ [] := by
  cases s with
  | nil => simp [parts]
  | cons c r =>
    unfold parts
    split
    · simp
    · split <;> simp
theorem parts_slash (r : List UInt8) : parts (47 :: r) = [] :: parts r := by simp [parts]
theorem parts_cons (c : UInt8) (hc : c ≠ 47) (r : List UInt8) : ∃ p q, parts r = p :: q ∧ parts (c :: r) = (c :: p) :: q := by
  cases h : parts r with
  | nil => exact absurd h (parts_ne r)
  | cons p q => exact ⟨p, q, rfl, by rw [parts, if_neg hc, h]⟩
theorem parts_len (s : List UInt8) : (parts s).length = s.count 47 + 1 := by
  induction s with
  | nil => rfl
  | cons c r ih =>
    by_cases hc : c = 47
    · subst hc; rw [parts_slash, List.length_cons, ih, List.count_cons_self]
    · obtain ⟨p, q, h1, h2⟩ := parts_cons c hc r
      rw [h2, List.length_cons, List.count_cons_of_ne hc, ← ih, h1, List.length_cons]
theorem parts_app (a b : List UInt8) : parts (a ++ 47 :: b) = parts a ++ parts b := by
  induction a with
  | nil => simp [parts]
  | cons c r ih =>
    by_cases hc : c = 47
    · subst hc; simp [parts_slash, ih]
    · obtain ⟨p, q, h1, h2⟩ := parts_cons c hc r
      obtain ⟨p', q', h3, h4⟩ := parts_cons c hc (r ++ 47 :: b)
      rw [ih, h1, List.cons_append] at h3
      injection h3 with h5 h6
      subst h5 h6
      rw [List.cons_append, h4, h2, List.cons_append]
theorem parts_none {s : List UInt8} (h : (47 : UInt8) ∉ s) : parts s = [s] := by
  induction s with
  | nil => rfl
  | cons c r ih =>
    simp only [List.mem_cons, not_or] at h
    rw [parts, if_neg (fun e => h.1 e.symm), ih h.2]
theorem parts_snoc (u : List UInt8) (c : UInt8) (hc : c ≠ 47) : ∃ q p, parts u = q ++ [p] ∧ parts (u ++ [c]) = q ++ [p ++ [c]] := by
  induction u with
  | nil => exact ⟨[], [], rfl, by simp [parts, hc]⟩
  | cons d r ih =>
    obtain ⟨q, p, h1, h2⟩ := ih
    by_cases hd : d = 47
    · subst hd; exact ⟨[] :: q, p, by rw [parts_slash, h1]; rfl, by rw [List.cons_append, parts_slash, h2]; rfl⟩
    · obtain ⟨p1, q1, h3, h4⟩ := parts_cons d hd r
      obtain ⟨p2, q2, h5, h6⟩ := parts_cons d hd (r ++ [c])
      rw [h1] at h3
      rw [h2] at h5
      cases q with
      | nil =>
        simp only [List.nil_append, List.cons.injEq] at h3 h5
        obtain ⟨rfl, rfl⟩ := h3
        obtain ⟨rfl, rfl⟩ := h5
        exact ⟨[], d :: p, by rw [h4]; rfl, by rw [List.cons_append, h6]; rfl⟩
      | cons q0 q =>
        simp only [List.cons_append, List.cons.injEq] at h3 h5
        obtain ⟨rfl, rfl⟩ := h3
        obtain ⟨rfl, rfl⟩ := h5
        exact ⟨(d :: q0) :: q, p, by rw [h4]; rfl, by rw [List.cons_append, h6]; rfl⟩
theorem parts_no (s : List UInt8) : ∀ p ∈ parts s, (47 : UInt8) ∉ p := by
  induction s with
  | nil => simp [parts]
  | cons c r ih =>
    by_cases hc : c = 47
    · subst hc; rw [parts_slash]; intro p hp
      rcases List.mem_cons.1 hp with rfl | hp
      · simp
      · exact ih p hp
    · obtain ⟨p, q, h1, h2⟩ := parts_cons c hc r
      rw [h1] at ih
      rw [h2]
      intro x hx
      rcases List.mem_cons.1 hx with rfl | hx
      · have := ih p (by simp)
        simp only [List.mem_cons, not_or]
        exact ⟨fun e => hc e.symm, this⟩
      · exact ih x (by simp [hx])

theorem index_parts (s : List UInt8) : (Lib.index s [47] = -1 ∧ (47 : UInt8) ∉ s ∧ parts s = [s]) ∨
    ∃ i : Nat, Lib.index s [47] = i ∧ i < s.length ∧ parts s = s.take i :: parts (s.drop (i + 1)) := by
  induction s with
  | nil => exact .inl ⟨rfl, by simp, rfl⟩
  | cons c r ih =>
    by_cases hc : c = 47
    · subst hc
      exact .inr ⟨0, by simp [Lib.index], by simp, by simp [parts_slash]⟩
    · have hp : ([47] : List UInt8).isPrefixOf (c :: r) = false := by simp [List.isPrefixOf_cons_cons, Ne.symm hc]
      obtain ⟨p, q, h1, h2⟩ := parts_cons c hc r
      rcases ih with ⟨h3, h4, h5⟩ | ⟨i, h3, h4, h5⟩
      · rw [h1] at h5
        simp only [List.cons.injEq] at h5
        obtain ⟨rfl, rfl⟩ := h5
        refine .inl ⟨?_, by simp [Ne.symm hc, h4], h2⟩
        simp [Lib.index, List.isPrefixOf_cons_cons, Ne.symm hc, h3]
      · rw [h1] at h5
        simp only [List.cons.injEq] at h5
        obtain ⟨rfl, rfl⟩ := h5
        refine .inr ⟨i + 1, ?_, by simp [h4], by rw [h2]; simp⟩
        simp only [Lib.index, hp, Bool.false_eq_true, if_false]
        rw [if_neg (by simp; omega), h3]
        rfl
theorem splitK_parts : ∀ (k : Nat) (s : List UInt8), (parts s).length = k + 1 → Lib.splitK [47] 0 k s = parts s
  | 0, s, h => by
    rcases index_parts s with ⟨_, _, h3⟩ | ⟨i, _, _, h3⟩
    · rw [h3]; rfl
    · rw [h3, List.length_cons] at h
      exact absurd (List.length_eq_zero_iff.1 (by omega)) (parts_ne (s.drop (i + 1)))
  | k + 1, s, h => by
    rcases index_parts s with ⟨_, _, h3⟩ | ⟨i, h1, _, h3⟩
    · rw [h3] at h; simp at h
    · rw [h3, List.length_cons] at h
      have hm : ¬ (Lib.index s [47] == -1) = true := fun e => by have := beq_iff_eq.1 e; omega
      have e : (Lib.index s [47]).toNat = i := by omega
      rw [Lib.splitK, if_neg hm, e, h3]
      simp only [Nat.add_zero, List.length_cons, List.length_nil, Nat.zero_add]
      rw [splitK_parts k _ (by omega)]
theorem split_parts (s : List UInt8) : Lib.split s [47] = parts s := by
  unfold Lib.split
  exact splitK_parts _ s (by rw [Lib.count_one, parts_len])

/-- Parts with a slash between. -/
def join : List (List UInt8) → List UInt8
  | [] => []
  | [p] => p
  | p :: q :: r => p ++ 47 :: join (q :: r)
theorem join_cons (p : List UInt8) {l : List (List UInt8)} (h : l ≠ []) : join (p :: l) = p ++ 47 :: join l := by
  cases l with
  | nil => exact absurd rfl h
  | cons q r => rfl
theorem join_parts (s : List UInt8) : join (parts s) = s := by
  induction s with
  | nil => rfl
  | cons c r ih =>
    by_cases hc : c = 47
    · subst hc; rw [parts_slash, join_cons _ (parts_ne r), ih]; rfl
    · obtain ⟨p, q, h1, h2⟩ := parts_cons c hc r
      rw [h1] at ih
      rw [h2]
      cases q with
      | nil => rw [← ih]; rfl
      | cons q0 q => rw [← ih]; rfl
theorem parts_inj {a b : List UInt8} (h : parts a = parts b) : a = b := by rw [← join_parts a, ← join_parts b, h]
theorem join_snoc {l : List (List UInt8)} (h : l ≠ []) (p : List UInt8) : join (l ++ [p]) = join l ++ 47 :: p := by
  induction l with
  | nil => exact absurd rfl h
  | cons q r ih =>
    cases r with
    | nil => rfl
    | cons q1 r =>
      have hne : q1 :: r ≠ [] := by simp
      rw [List.cons_append, join_cons _ (by simp), ih hne, join_cons q hne]
      simp
/-- The last slash: none, or what stands ahead of it and behind. -/
theorem last_parts (s : List UInt8) : ((47 : UInt8) ∉ s ∧ parts s = [s]) ∨ ∃ u v, s = u ++ 47 :: v ∧ (47 : UInt8) ∉ v ∧ parts s = parts u ++ [v] ∧ join (parts s).dropLast = u := by
  by_cases h : (47 : UInt8) ∈ s
  · refine .inr ?_
    have hr : (47 : UInt8) ∈ s.reverse := by simpa using h
    obtain ⟨v, u, hu, hn⟩ := List.eq_append_cons_of_mem hr
    have hs : s = u.reverse ++ 47 :: v.reverse := by
      have := congrArg List.reverse hu
      simpa using this
    have hp : parts s = parts u.reverse ++ [v.reverse] := by rw [hs, parts_app, parts_none (s := v.reverse) (by simpa using hn)]
    exact ⟨u.reverse, v.reverse, hs, by simpa using hn, hp, by rw [hp, List.dropLast_concat, join_parts]⟩
  · exact .inl ⟨h, parts_none h⟩

/-- May a byte be in a part; may a text be a part; may it be a path? -/
def okC (c : UInt8) : Bool := decide (33 ≤ c.toNat) && decide (c.toNat ≤ 126) && decide (c.toNat ≠ 92)
def partB (p : List UInt8) : Bool := p.all okC && decide (0 < p.length) && decide (p.length ≤ 64) && decide (p ≠ [46]) && decide (p ≠ [46, 46])
def rightB (s : List UInt8) : Bool := decide (s.length ≤ 256) && (parts s).all partB
def parentB (s : List UInt8) : List UInt8 := if rightB s then join (parts s).dropLast else []
def partsB (s : List UInt8) : List (List UInt8) := if rightB s then parts s else []
def belowB (s o : List UInt8) : Bool := rightB s && rightB o && (parts o).isPrefixOf (parts s)

theorem below_slash (o s : List UInt8) : (o ++ [47]).isPrefixOf (s ++ [47]) = (parts o).isPrefixOf (parts s) := by
  induction o generalizing s with
  | nil =>
    cases s with
    | nil => rfl
    | cons d r =>
      by_cases hd : d = 47
      · subst hd; simp [parts]
      · obtain ⟨p, q, _, h2⟩ := parts_cons d hd r
        rw [h2]
        simp [parts, List.isPrefixOf_cons_cons, Ne.symm hd]
  | cons c o ih =>
    cases s with
    | nil =>
      by_cases hc : c = 47
      · subst hc
        have h1 : (47 :: o ++ [47] : List UInt8).isPrefixOf ([] ++ [47]) = false := by cases o <;> simp
        rw [h1, parts_slash]
        cases h : parts o with
        | nil => exact absurd h (parts_ne o)
        | cons p q => simp [parts]
      · obtain ⟨p, q, _, h2⟩ := parts_cons c hc o
        rw [h2]
        simp [parts, List.isPrefixOf_cons_cons]
    | cons d s =>
      have hi := ih s
      by_cases hc : c = 47
      · subst hc
        by_cases hd : d = 47
        · subst hd; rw [parts_slash, parts_slash]; simpa [List.isPrefixOf_cons_cons] using hi
        · obtain ⟨p, q, _, h2⟩ := parts_cons d hd s
          rw [parts_slash, h2]
          simp [List.isPrefixOf_cons_cons, Ne.symm hd]
      · obtain ⟨p, q, h1, h2⟩ := parts_cons c hc o
        by_cases hd : d = 47
        · subst hd; rw [parts_slash, h2]; simp [List.isPrefixOf_cons_cons, hc]
        · obtain ⟨p', q', h3, h4⟩ := parts_cons d hd s
          rw [h1, h3] at hi
          rw [h2, h4]
          simp only [List.cons_append, List.isPrefixOf_cons_cons, hi]
          exact (Bool.and_assoc _ _ _).symm

/-- A comparison: -1, 0 or 1. -/
structure Ord {α : Type} (c : α → α → Int) : Prop where
  neg : ∀ a b, c b a = - c a b
  zero : ∀ a b, c a b = 0 ↔ a = b
  trans : ∀ a b d, c a b < 0 → c b d < 0 → c a d < 0
  one : ∀ a b, c a b = -1 ∨ c a b = 0 ∨ c a b = 1
def cmpG {α : Type} (c : α → α → Int) : List α → List α → Int
  | [], [] => 0
  | [], _ :: _ => -1
  | _ :: _, [] => 1
  | a :: as, b :: bs => if c a b = 0 then cmpG c as bs else c a b
theorem Ord.list {α : Type} {c : α → α → Int} (h : Ord c) : Ord (cmpG c) where
  neg a b := by
    induction a generalizing b with
    | nil => cases b <;> simp [cmpG]
    | cons x a ih =>
      cases b with
      | nil => simp [cmpG]
      | cons y b =>
        simp only [cmpG]
        rw [h.neg x y, ih b]
        by_cases e : c x y = 0
        · rw [if_pos (by omega), if_pos e]
        · rw [if_neg (by omega), if_neg e]
  zero a b := by
    induction a generalizing b with
    | nil => cases b <;> simp [cmpG]
    | cons x a ih =>
      cases b with
      | nil => simp [cmpG]
      | cons y b =>
        simp only [cmpG, List.cons.injEq, ← h.zero x y, ← ih b]
        by_cases e : c x y = 0 <;> simp [e]
  trans a b d := by
    induction a generalizing b d with
    | nil =>
      cases b with
      | nil => simp [cmpG]
      | cons y b => cases d <;> simp [cmpG]
    | cons x a ih =>
      cases b with
      | nil => simp [cmpG]
      | cons y b =>
        cases d with
        | nil => simp [cmpG]
        | cons z d =>
          simp only [cmpG]
          intro h1 h2
          by_cases e : c x y = 0
          · obtain rfl := (h.zero x y).1 e
            rw [if_pos e] at h1
            by_cases e2 : c x z = 0
            · rw [if_pos e2] at h2 ⊢; exact ih b d h1 h2
            · rw [if_neg e2] at h2 ⊢; exact h2
          · rw [if_neg e] at h1
            by_cases e2 : c y z = 0
            · obtain rfl := (h.zero y z).1 e2
              rw [if_neg e]; exact h1
            · rw [if_neg e2] at h2
              have := h.trans x y z h1 h2
              rw [if_neg (by omega)]; exact this
  one a b := by
    induction a generalizing b with
    | nil => cases b <;> simp [cmpG]
    | cons x a ih =>
      cases b with
      | nil => simp [cmpG]
      | cons y b =>
        simp only [cmpG]
        by_cases e : c x y = 0
        · rw [if_pos e]; exact ih b
        · rw [if_neg e]; exact h.one x y
theorem Ord.le_trans {α : Type} {c : α → α → Int} (h : Ord c) (a b d : α) (h1 : c a b ≤ 0) (h2 : c b d ≤ 0) : c a d ≤ 0 := by
  by_cases e1 : c a b = 0
  · obtain rfl := (h.zero a b).1 e1; exact h2
  · by_cases e2 : c b d = 0
    · obtain rfl := (h.zero b d).1 e2; exact h1
    · exact Int.le_of_lt (h.trans a b d (by omega) (by omega))
def cmpC (a b : UInt8) : Int := if a < b then -1 else if b < a then 1 else 0
theorem ordC : Ord cmpC where
  neg a b := by
    unfold cmpC
    simp only [UInt8.lt_iff_toNat_lt]
    by_cases h1 : a.toNat < b.toNat
    · simp [h1, show ¬ b.toNat < a.toNat by omega]
    · by_cases h2 : b.toNat < a.toNat <;> simp [h1, h2]
  zero a b := by
    unfold cmpC
    simp only [UInt8.lt_iff_toNat_lt, ← UInt8.toNat_inj]
    by_cases h1 : a.toNat < b.toNat
    · simp [h1]; omega
    · by_cases h2 : b.toNat < a.toNat <;> simp [h1, h2] <;> omega
  trans a b d := by
    unfold cmpC
    simp only [UInt8.lt_iff_toNat_lt]
    intro h1 h2
    have h3 : a.toNat < b.toNat := by
      by_cases h : a.toNat < b.toNat
      · exact h
      · rw [if_neg h] at h1; split at h1 <;> omega
    have h4 : b.toNat < d.toNat := by
      by_cases h : b.toNat < d.toNat
      · exact h
      · rw [if_neg h] at h2; split at h2 <;> omega
    rw [if_pos (by omega)]; decide
  one a b := by
    unfold cmpC
    by_cases h1 : a < b
    · simp [h1]
    · by_cases h2 : b < a <;> simp [h1, h2]
theorem compare_cmp (a b : List UInt8) : Lib.compareBytes a b = cmpG cmpC a b := by
  induction a generalizing b with
  | nil => cases b <;> rfl
  | cons x a ih =>
    cases b with
    | nil => rfl
    | cons y b =>
      simp only [Lib.compareBytes, cmpG, cmpC, ih b]
      by_cases h1 : x < y
      · simp [h1]
      · by_cases h2 : y < x <;> simp [h1, h2]
/-- Two texts; two rows of parts; two paths. -/
def cmpT : List UInt8 → List UInt8 → Int := cmpG cmpC
def cmpL : List (List UInt8) → List (List UInt8) → Int := cmpG cmpT
def cmpP (a b : List UInt8) : Int := cmpL (parts a) (parts b)
theorem ordT : Ord cmpT := ordC.list
theorem ordL : Ord cmpL := ordT.list
theorem ordP : Ord cmpP where
  neg a b := ordL.neg _ _
  zero a b := (ordL.zero _ _).trans ⟨parts_inj, fun h => by rw [h]⟩
  trans a b d := ordL.trans _ _ _
  one a b := ordL.one _ _
theorem cmpL_cons (x : List UInt8) (a : List (List UInt8)) (y : List UInt8) (b : List (List UInt8)) : cmpL (x :: a) (y :: b) = if x = y then cmpL a b else cmpT x y := by
  show (if cmpT x y = 0 then cmpL a b else cmpT x y) = _
  by_cases h : x = y
  · rw [if_pos h, if_pos ((ordT.zero x y).2 h)]
  · rw [if_neg h, if_neg (fun e => h ((ordT.zero x y).1 e))]
theorem cmpL_nil (b : List (List UInt8)) (h : b ≠ []) : cmpL [] b = -1 := by
  cases b with
  | nil => exact absurd rfl h
  | cons y b => rfl
theorem cmpL_nil' (b : List (List UInt8)) (h : b ≠ []) : cmpL b [] = 1 := by
  cases b with
  | nil => exact absurd rfl h
  | cons y b => rfl
theorem cmpL_pre (x y : List (List UInt8)) (h : y ≠ []) : cmpL x (x ++ y) = -1 := by
  induction x with
  | nil => exact cmpL_nil y h
  | cons p x ih => rw [List.cons_append, cmpL_cons, if_pos rfl, ih]
theorem cmpL_behind {x a : List (List UInt8)} (h : x.isPrefixOf a = true) : 0 ≤ cmpL a x := by
  induction x generalizing a with
  | nil => cases a <;> simp [cmpL, cmpG]
  | cons p x ih =>
    cases a with
    | nil => simp at h
    | cons q a =>
      simp only [List.isPrefixOf_cons_cons, Bool.and_eq_true, beq_iff_eq] at h
      rw [cmpL_cons, if_pos h.1.symm]
      exact ih h.2
/-- What stands between two that begin so, begins so. -/
theorem together {x a b d : List (List UInt8)} (ha : x.isPrefixOf a = true) (hd : x.isPrefixOf d = true) (h1 : cmpL a b ≤ 0) (h2 : cmpL b d ≤ 0) : x.isPrefixOf b = true := by
  induction x generalizing a b d with
  | nil => simp
  | cons p x ih =>
    cases a with
    | nil => simp at ha
    | cons q a =>
      cases d with
      | nil => simp at hd
      | cons r d =>
        simp only [List.isPrefixOf_cons_cons, Bool.and_eq_true, beq_iff_eq] at ha hd
        obtain ⟨rfl, ha⟩ := ha
        obtain ⟨rfl, hd⟩ := hd
        cases b with
        | nil => simp [cmpL, cmpG] at h1
        | cons y b =>
          rw [cmpL_cons] at h1 h2
          by_cases e : p = y
          · subst e
            rw [if_pos rfl] at h1 h2
            simp [ih ha hd h1 h2]
          · rw [if_neg e] at h1
            rw [if_neg (Ne.symm e)] at h2
            have := ordT.neg p y
            have h3 : cmpT p y ≠ 0 := fun h => e ((ordT.zero p y).1 h)
            omega
end Go.Proofs.YtiakkfcjdmecdaaDoor
