/-
  Layer 10's words: steps, put and taken (of no program).
-/
import Derived.Test.YtohndlfekecfoaaCodBackM
import Derived.Test.YtohndlfekecfoaaCodDo
namespace Go.Proofs.Ytohndlfekecfoaa
set_option maxRecDepth 1000000

/-- A writer, eight chances, and a tree's 256. -/
structure Tri where
  s : Cst
  c : List Nat
  t : List Nat
def triB : Tri := ⟨beginS, List.replicate 8 1024, List.replicate 256 1024⟩
def may0 (d : Dos) : Prop := d.verb = 0 ∧ 0 ≤ d.k ∧ d.k < 8 ∧ 0 ≤ d.n ∧ d.n < 2
def may1 (d : Dos) : Prop := d.verb = 1 ∧ 0 ≤ d.bits ∧ d.bits ≤ 32
def may2 (d : Dos) : Prop := d.verb = 2 ∧ 0 ≤ d.bits ∧ d.bits ≤ 8
open Classical in
/-- A step is put. -/
noncomputable def putD (x : Tri) (d : Dos) : Tri :=
  if may0 d then ⟨(bitS x.s x.c d.k.toNat (decide (d.n ≠ 0))).1, (bitS x.s x.c d.k.toNat (decide (d.n ≠ 0))).2, x.t⟩
  else if may1 d then ⟨evenS x.s d.n d.bits.toNat, x.c, x.t⟩
  else if may2 d then ⟨(treeS x.s x.t d.n d.bits.toNat 1).1, x.c, (treeS x.s x.t d.n d.bits.toNat 1).2⟩
  else x
theorem putD0 {x : Tri} {d : Dos} (h : may0 d) : putD x d = ⟨(bitS x.s x.c d.k.toNat (decide (d.n ≠ 0))).1, (bitS x.s x.c d.k.toNat (decide (d.n ≠ 0))).2, x.t⟩ := if_pos h
theorem putD1 {x : Tri} {d : Dos} (h : may1 d) : putD x d = ⟨evenS x.s d.n d.bits.toNat, x.c, x.t⟩ := by
  have h0 : ¬ may0 d := fun k => by have := k.1; have := h.1; omega
  unfold putD
  rw [if_neg h0, if_pos h]
theorem putD2 {x : Tri} {d : Dos} (h : may2 d) : putD x d = ⟨(treeS x.s x.t d.n d.bits.toNat 1).1, x.c, (treeS x.s x.t d.n d.bits.toNat 1).2⟩ := by
  have h0 : ¬ may0 d := fun k => by have := k.1; have := h.1; omega
  have h1 : ¬ may1 d := fun k => by have := k.1; have := h.1; omega
  unfold putD
  rw [if_neg h0, if_neg h1, if_pos h]
theorem putDn {x : Tri} {d : Dos} (h0 : ¬ may0 d) (h1 : ¬ may1 d) (h2 : ¬ may2 d) : putD x d = x := by
  unfold putD
  rw [if_neg h0, if_neg h1, if_neg h2]
structure OkT (x : Tri) : Prop where
  s : Okw x.s
  c : Okl x.c
  t : Okl x.t
  c8 : x.c.length = 8
  t256 : x.t.length = 256
theorem okl_rep (n : Nat) : Okl (List.replicate n 1024) := by
  intro c hc
  rw [List.eq_of_mem_replicate hc]
  exact ⟨by decide, by decide⟩
theorem triB_ok : OkT triB := ⟨⟨begin_ok, nov_begin⟩, okl_rep 8, okl_rep 256, List.length_replicate, List.length_replicate⟩
theorem tree8 {k : Nat} (h : k ≤ 8) : (1 + 1) * 2 ^ k ≤ 2 * 256 := by
  have : (2 : Nat) ^ k ≤ 2 ^ 8 := Nat.pow_le_pow_right (by decide) h
  omega
theorem putD_ok {x : Tri} (d : Dos) (h : OkT x) : OkT (putD x d) := by
  by_cases h0 : may0 d
  · rw [putD0 h0]
    obtain ⟨_, h1, h2, _⟩ := h0
    have hp : d.k.toNat < x.c.length := by rw [h.c8]; omega
    obtain ⟨k1, k2⟩ := bitS_okw (decide (d.n ≠ 0)) h.s h.c hp
    exact ⟨k1, k2, h.t, (bitS_len x.s x.c d.k.toNat (decide (d.n ≠ 0))).trans h.c8, h.t256⟩
  · by_cases h1 : may1 d
    · rw [putD1 h1]
      exact ⟨evenS_okw _ _ h.s, h.c, h.t, h.c8, h.t256⟩
    · by_cases h2 : may2 d
      · rw [putD2 h2]
        obtain ⟨_, k1, k2⟩ := h2
        obtain ⟨m1, m2⟩ := treeS_okw d.n d.bits.toNat 1 h.s h.t (by rw [h.t256]; exact tree8 (by omega))
        exact ⟨m1, h.c, m2, h.c8, (treeS_len d.n d.bits.toNat 1 x.s x.t).1.trans h.t256⟩
      · rw [putDn h0 h1 h2]
        exact h
theorem putD_len (x : Tri) (d : Dos) : (putD x d).s.out.length ≤ x.s.out.length + 32 := by
  by_cases h0 : may0 d
  · rw [putD0 h0]
    have := putS_len x.s (x.s.width / 2048 * x.c.getD d.k.toNat 0) (decide (d.n ≠ 0))
    show (putS _ _ _).out.length ≤ _
    omega
  · by_cases h1 : may1 d
    · rw [putD1 h1]
      have := evenS_len d.n d.bits.toNat x.s
      have := h1.2.2
      show (evenS _ _ _).out.length ≤ _
      omega
    · by_cases h2 : may2 d
      · rw [putD2 h2]
        have := (treeS_len d.n d.bits.toNat 1 x.s x.t).2
        have := h2.2.2
        show (treeS _ _ _ _ _).1.out.length ≤ _
        omega
      · rw [putDn h0 h1 h2]
        omega
theorem putD_back {x : Tri} {d : Dos} {B : List UInt8} (h : OkT x) (hg : Goes (putD x d).s B) : Goes x.s B := by
  by_cases h0 : may0 d
  · rw [putD0 h0] at hg
    obtain ⟨_, h1, h2, _⟩ := h0
    exact goes_back h.s (bit_bound h.s h.c (by rw [h.c8]; omega)) hg
  · by_cases h1 : may1 d
    · rw [putD1 h1] at hg
      exact goes_even _ _ h.s hg
    · by_cases h2 : may2 d
      · rw [putD2 h2] at hg
        obtain ⟨_, k1, k2⟩ := h2
        exact goes_tree _ _ _ h.s h.t (by rw [h.t256]; exact tree8 (by omega)) hg
      · rw [putDn h0 h1 h2] at hg
        exact hg
/-- Many steps. -/
noncomputable def putsD (x : Tri) : List Dos → Tri
  | [] => x
  | d :: l => putsD (putD x d) l
theorem putsD_ok : ∀ (l : List Dos) {x : Tri}, OkT x → OkT (putsD x l)
  | [], _, h => h
  | d :: l, _, h => putsD_ok l (putD_ok d h)
theorem putsD_len : ∀ (l : List Dos) (x : Tri), (putsD x l).s.out.length ≤ x.s.out.length + 32 * l.length
  | [], _ => Nat.le_refl _
  | d :: l, x => by
    have h1 := putsD_len l (putD x d)
    have h2 := putD_len x d
    show (putsD (putD x d) l).s.out.length ≤ _
    rw [List.length_cons]
    omega
theorem putsD_back : ∀ (l : List Dos) {x : Tri} {B : List UInt8}, OkT x → Goes (putsD x l).s B → Goes x.s B
  | [], _, _, _, hg => hg
  | d :: l, _, _, h, hg => putD_back h (putsD_back l (putD_ok d h) hg)
theorem putsD_app : ∀ (a b : List Dos) (x : Tri), putsD x (a ++ b) = putsD (putsD x a) b
  | [], _, _ => rfl
  | d :: a, b, x => putsD_app a b (putD x d)
theorem putsD_take (l : List Dos) (x : Tri) (k : Nat) (d : Dos) (h : l[k]? = some d) : putsD x (l.take (k + 1)) = putD (putsD x (l.take k)) d := by
  rw [List.take_add_one, h, putsD_app]
  rfl
/-- Ahead of step k all goes on to the end's bytes. -/
theorem goes_at (l : List Dos) (k : Nat) : Goes (putsD triB (l.take k)).s (endS (putsD triB l).s) := by
  have h : putsD (putsD triB (l.take k)) (l.drop k) = putsD triB l := by rw [← putsD_app, List.take_append_drop]
  refine putsD_back (l.drop k) (putsD_ok _ triB_ok) ?_
  rw [h]
  exact (goes_end (putsD_ok l triB_ok).s.ok).1
theorem rdAt_ok {s : Cst} {B : List UInt8} (h : Okw s) (hg : Goes s B) : Okr (rdAt B s) := by
  obtain ⟨_, g2, g3⟩ := hg
  exact ⟨by show valB _ - tot s ≤ s.width; omega, h.ok.wide, h.ok.most⟩
end Go.Proofs.Ytohndlfekecfoaa
