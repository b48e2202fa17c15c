/-
  Layer 10's words, of no program: bits by how likely they are, put and taken.
-/
import Derived.Test.YtohndlfekecfoaaBase
namespace Go.Proofs.Ytohndlfekecfoaa
set_option maxRecDepth 1000000

/-- What a writer keeps: the bytes told, low, the width. -/
structure Cst where
  out : List UInt8
  low : Nat
  width : Nat

/-- One more in the k-th byte ahead, and so on towards the first one. -/
def incrAt : Nat → List UInt8 → List UInt8
  | 0, l => l
  | k + 1, l => if l.getD k 0 + 1 = 0 then incrAt k (l.set k 0) else l.set k (l.getD k 0 + 1)
def incr (l : List UInt8) : List UInt8 := incrAt l.length l
theorem incrAt_len : ∀ (k : Nat) (l : List UInt8), (incrAt k l).length = l.length
  | 0, _ => rfl
  | k + 1, l => by
    unfold incrAt
    split
    · rw [incrAt_len k]; simp
    · simp
theorem incr_len (l : List UInt8) : (incr l).length = l.length := incrAt_len _ _

/-- The highest byte of low is told. -/
def tellS (s : Cst) : Cst := ⟨s.out ++ [UInt8.ofNat (s.low / 16777216)], s.low % 16777216 * 256, s.width⟩
/-- Room for a bit. -/
def wid (s : Cst) : Cst := if s.width < 16777216 then { tellS s with width := s.width * 256 } else s
/-- A bit by its bound. -/
def putS (s : Cst) (bound : Nat) (b : Bool) : Cst :=
  if b then wid ⟨if 4294967296 ≤ s.low + bound then incr s.out else s.out, (s.low + bound) % 4294967296, s.width - bound⟩ else wid ⟨s.out, s.low, bound⟩

/-- What always holds between two steps. -/
structure Okc (s : Cst) : Prop where
  low : s.low < 4294967296
  wide : 16777216 ≤ s.width
  most : s.width < 4294967296
/-- A bound that may be. -/
structure Okb (s : Cst) (bound : Nat) : Prop where
  least : 65536 ≤ bound
  most : bound + 65536 ≤ s.width

theorem wid_ok {s : Cst} (h1 : s.low < 4294967296) (h2 : 65536 ≤ s.width) (h3 : s.width < 4294967296) : Okc (wid s) := by
  unfold wid
  split
  · refine ⟨?_, ?_, ?_⟩ <;> simp [tellS] <;> omega
  · exact ⟨h1, by omega, h3⟩
theorem putS_ok {s : Cst} {bound : Nat} {b : Bool} (h : Okc s) (hb : Okb s bound) : Okc (putS s bound b) := by
  have h1 := h.low
  have h2 := h.wide
  have h3 := h.most
  have b1 := hb.least
  have b2 := hb.most
  unfold putS
  split
  · exact wid_ok (Nat.mod_lt _ (by decide)) (by show 65536 ≤ s.width - bound; omega) (by show s.width - bound < _; omega)
  · exact wid_ok h1 b1 (by show bound < _; omega)
theorem wid_len (s : Cst) : (wid s).out.length ≤ s.out.length + 1 := by
  unfold wid
  split <;> simp [tellS]
theorem putS_len (s : Cst) (bound : Nat) (b : Bool) : (putS s bound b).out.length ≤ s.out.length + 1 := by
  unfold putS
  split
  · refine Nat.le_trans (wid_len _) ?_
    split <;> simp [incr_len]
  · exact wid_len _

/-- A chance: from 31 to 2017. -/
def Okn (c : Nat) : Prop := 31 ≤ c ∧ c ≤ 2017
/-- A chance behind a bit. -/
def saw (c : Nat) (b : Bool) : Nat := if b then c - c / 32 else c + (2048 - c) / 32
theorem saw_ok {c : Nat} (h : Okn c) (b : Bool) : Okn (saw c b) := by
  obtain ⟨h1, h2⟩ := h
  unfold saw Okn
  split <;> omega
theorem bound_ok {s : Cst} {c : Nat} (h : Okc s) (hc : Okn c) : Okb s (s.width / 2048 * c) := by
  have h2 := h.wide
  obtain ⟨c1, c2⟩ := hc
  have e1 : s.width / 2048 * 31 ≤ s.width / 2048 * c := Nat.mul_le_mul_left _ c1
  have e2 : s.width / 2048 * c ≤ s.width / 2048 * 2017 := Nat.mul_le_mul_left _ c2
  constructor <;> omega
theorem even_ok {s : Cst} (h : Okc s) : Okb s (s.width / 2) := by
  have h2 := h.wide
  constructor <;> omega

/-- The four bytes of low. -/
def lowB (n : Nat) : List UInt8 := [UInt8.ofNat (n / 16777216), UInt8.ofNat (n / 65536 % 256), UInt8.ofNat (n / 256 % 256), UInt8.ofNat (n % 256)]
def endS (s : Cst) : List UInt8 := s.out ++ lowB s.low
def beginS : Cst := ⟨[], 0, 4294967295⟩
theorem begin_ok : Okc beginS := ⟨by decide, by decide, by decide⟩

/-- The bit of n at place k. -/
def bitAt (n : Int) (k : Nat) : Bool := (n / 2 ^ k) % 2 = 1
/-- k bits of n of no chance, the highest first. -/
def evenS (s : Cst) (n : Int) : Nat → Cst
  | 0 => s
  | k + 1 => evenS (putS s (s.width / 2) (bitAt n k)) n k
theorem evenS_ok {n : Int} : ∀ (k : Nat) {s : Cst}, Okc s → Okc (evenS s n k)
  | 0, _, h => h
  | k + 1, _, h => evenS_ok k (putS_ok h (even_ok h))
theorem evenS_len (n : Int) : ∀ (k : Nat) (s : Cst), (evenS s n k).out.length ≤ s.out.length + k
  | 0, s => Nat.le_refl _
  | k + 1, s => by
    have h1 := evenS_len n k (putS s (s.width / 2) (bitAt n k))
    have h2 := putS_len s (s.width / 2) (bitAt n k)
    simp only [evenS]
    omega
/-- A bit of the chance at a place of a list. -/
def bitS (s : Cst) (L : List Nat) (p : Nat) (b : Bool) : Cst × List Nat := (putS s (s.width / 2048 * L.getD p 0) b, L.set p (saw (L.getD p 0) b))
/-- k bits of n, each of the chance at its place. -/
def treeS (s : Cst) (L : List Nat) (n : Int) : Nat → Nat → Cst × List Nat
  | 0, _ => (s, L)
  | k + 1, p => treeS (bitS s L p (bitAt n k)).1 (bitS s L p (bitAt n k)).2 n k (2 * p + (bitAt n k).toNat)
/-- Chances that may be. -/
def Okl (L : List Nat) : Prop := ∀ c ∈ L, Okn c
theorem Okl.at_ {L : List Nat} (h : Okl L) {p : Nat} (hp : p < L.length) : Okn (L.getD p 0) := by
  rw [List.getD_eq_getElem?_getD, List.getElem?_eq_getElem hp]
  exact h _ (List.getElem_mem _)
theorem Okl.set {L : List Nat} (h : Okl L) {p c : Nat} (hc : Okn c) : Okl (L.set p c) := by
  intro x hx
  rcases List.mem_or_eq_of_mem_set hx with h1 | h1
  · exact h _ h1
  · rw [h1]; exact hc
theorem bitS_len (s : Cst) (L : List Nat) (p : Nat) (b : Bool) : (bitS s L p b).2.length = L.length := by simp [bitS]
theorem bitS_ok {s : Cst} {L : List Nat} {p : Nat} (b : Bool) (h : Okc s) (hl : Okl L) (hp : p < L.length) : Okc (bitS s L p b).1 ∧ Okl (bitS s L p b).2 :=
  ⟨putS_ok h (bound_ok h (hl.at_ hp)), hl.set (saw_ok (hl.at_ hp) b)⟩
theorem treeS_len (n : Int) : ∀ (k p : Nat) (s : Cst) (L : List Nat), (treeS s L n k p).2.length = L.length ∧ (treeS s L n k p).1.out.length ≤ s.out.length + k
  | 0, _, s, L => ⟨rfl, Nat.le_refl _⟩
  | k + 1, p, s, L => by
    obtain ⟨h1, h2⟩ := treeS_len n k (2 * p + (bitAt n k).toNat) (bitS s L p (bitAt n k)).1 (bitS s L p (bitAt n k)).2
    have h3 := putS_len s (s.width / 2048 * L.getD p 0) (bitAt n k)
    simp only [treeS]
    refine ⟨h1.trans (bitS_len _ _ _ _), ?_⟩
    simp only [bitS] at h2 ⊢
    omega
theorem tree_lt {p k n : Nat} (h : (p + 1) * 2 ^ (k + 1) ≤ 2 * n) : p < n := by
  have h0 : 0 < 2 ^ k := Nat.pow_pos (by decide)
  have h1 : (p + 1) * 1 ≤ (p + 1) * 2 ^ k := Nat.mul_le_mul_left _ h0
  have h2 : (p + 1) * 2 ^ (k + 1) = 2 * ((p + 1) * 2 ^ k) := by rw [Nat.pow_succ, Nat.mul_comm (2 ^ k) 2, ← Nat.mul_assoc, Nat.mul_comm (p + 1) 2, Nat.mul_assoc]
  omega
theorem tree_next {p k n : Nat} (b : Bool) (h : (p + 1) * 2 ^ (k + 1) ≤ 2 * n) : (2 * p + b.toNat + 1) * 2 ^ k ≤ 2 * n := by
  have hb : b.toNat ≤ 1 := by cases b <;> decide
  have h1 : (2 * p + b.toNat + 1) * 2 ^ k ≤ (2 * (p + 1)) * 2 ^ k := Nat.mul_le_mul_right _ (by omega)
  have h2 : (p + 1) * 2 ^ (k + 1) = (2 * (p + 1)) * 2 ^ k := by rw [Nat.pow_succ, Nat.mul_comm (2 ^ k) 2, ← Nat.mul_assoc, Nat.mul_comm (p + 1) 2]
  omega
theorem treeS_ok (n : Int) : ∀ (k p : Nat) (s : Cst) (L : List Nat), Okc s → Okl L → (p + 1) * 2 ^ k ≤ 2 * L.length → Okc (treeS s L n k p).1 ∧ Okl (treeS s L n k p).2
  | 0, _, s, L, h, hl, _ => ⟨h, hl⟩
  | k + 1, p, s, L, h, hl, hp => by
    obtain ⟨h1, h2⟩ := bitS_ok (bitAt n k) h hl (tree_lt hp)
    simp only [treeS]
    exact treeS_ok n k _ _ _ h1 h2 (by rw [bitS_len]; exact tree_next _ hp)
end Go.Proofs.Ytohndlfekecfoaa
