/-
  Layer 10's words: taking bits (of no program).
-/
import Derived.Test.YtohndlfekecfoaaCod
namespace Go.Proofs.Ytohndlfekecfoaa
set_option maxRecDepth 1000000

/-- What a reader keeps: the bytes that were not taken, the number, the width, whether a byte was missing. -/
structure Rst where
  rest : List UInt8
  num : Nat
  width : Nat
  short : Bool
/-- The next byte behind the number. -/
def nextR (r : Rst) : Rst := match r.rest with
  | [] => ⟨[], r.num * 256, r.width, true⟩
  | x :: t => ⟨t, r.num * 256 + x.toNat, r.width, r.short⟩
def widR (r : Rst) : Rst := if r.width < 16777216 then ⟨(nextR r).rest, min (nextR r).num (r.width * 256), r.width * 256, (nextR r).short⟩ else r
def takeR (r : Rst) (bound : Nat) : Bool × Rst := if r.num < bound then (false, widR ⟨r.rest, r.num, bound, r.short⟩) else (true, widR ⟨r.rest, r.num - bound, r.width - bound, r.short⟩)
/-- What always holds between two steps. -/
structure Okr (r : Rst) : Prop where
  num : r.num ≤ r.width
  wide : 16777216 ≤ r.width
  most : r.width < 4294967296
theorem widR_ok {r : Rst} (h1 : r.num ≤ r.width) (h2 : 65536 ≤ r.width) (h3 : r.width < 4294967296) : Okr (widR r) := by
  unfold widR
  split
  · exact ⟨Nat.min_le_right _ _, by show 16777216 ≤ r.width * 256; omega, by show r.width * 256 < _; omega⟩
  · exact ⟨h1, by omega, h3⟩
theorem takeR_ok {r : Rst} {bound : Nat} (h : Okr r) (h1 : 65536 ≤ bound) (h2 : bound + 65536 ≤ r.width) : Okr (takeR r bound).2 := by
  have := h.num
  have := h.most
  unfold takeR
  split
  · exact widR_ok (by show r.num ≤ bound; omega) h1 (by show bound < _; omega)
  · exact widR_ok (by show r.num - bound ≤ r.width - bound; omega) (by show _ ≤ r.width - bound; omega) (by show r.width - bound < _; omega)
theorem nextR_len (r : Rst) : (nextR r).rest.length ≤ r.rest.length := by
  unfold nextR
  split
  · simp
  · rename_i h; rw [h]; simp
theorem widR_len (r : Rst) : (widR r).rest.length ≤ r.rest.length := by
  unfold widR
  split
  · exact nextR_len r
  · exact Nat.le_refl _
theorem takeR_len (r : Rst) (bound : Nat) : (takeR r bound).2.rest.length ≤ r.rest.length := by
  unfold takeR
  split <;> exact widR_len _
/-- If a byte was missing, none is left. -/
def Sho (r : Rst) : Prop := r.short = true → r.rest = []
theorem nextR_sho {r : Rst} (h : Sho r) : Sho (nextR r) := by
  unfold nextR Sho
  split
  · exact fun _ => rfl
  · rename_i x t he
    intro hs
    have := h hs
    rw [he] at this
    cases this
theorem widR_sho {r : Rst} (h : Sho r) : Sho (widR r) := by
  unfold widR
  split
  · exact nextR_sho h
  · exact h
theorem takeR_sho {r : Rst} (bound : Nat) (h : Sho r) : Sho (takeR r bound).2 := by
  unfold takeR
  split <;> exact widR_sho h
/-- Bits of no chance; bits of the chance at a place; bits of a tree. -/
def evenR (r : Rst) (n : Nat) : Nat → Nat × Rst
  | 0 => (n, r)
  | k + 1 => evenR (takeR r (r.width / 2)).2 (2 * n + (takeR r (r.width / 2)).1.toNat) k
def bitR (r : Rst) (L : List Nat) (p : Nat) : Bool × Rst × List Nat := ((takeR r (r.width / 2048 * L.getD p 0)).1, (takeR r (r.width / 2048 * L.getD p 0)).2, L.set p (saw (L.getD p 0) (takeR r (r.width / 2048 * L.getD p 0)).1))
def treeR (r : Rst) (L : List Nat) : Nat → Nat → Nat × Rst × List Nat
  | 0, p => (p, r, L)
  | k + 1, p => treeR (bitR r L p).2.1 (bitR r L p).2.2 k (2 * p + (bitR r L p).1.toNat)
theorem evenB_ok {r : Rst} (h : Okr r) : 65536 ≤ r.width / 2 ∧ r.width / 2 + 65536 ≤ r.width := by
  have := h.wide
  omega
theorem boundR_ok {r : Rst} {c : Nat} (h : Okr r) (hc : Okn c) : 65536 ≤ r.width / 2048 * c ∧ r.width / 2048 * c + 65536 ≤ r.width := by
  have h2 := h.wide
  obtain ⟨c1, c2⟩ := hc
  have e1 : r.width / 2048 * 31 ≤ r.width / 2048 * c := Nat.mul_le_mul_left _ c1
  have e2 : r.width / 2048 * c ≤ r.width / 2048 * 2017 := Nat.mul_le_mul_left _ c2
  constructor <;> omega
theorem bitR_ok {r : Rst} {L : List Nat} {p : Nat} (h : Okr r) (hl : Okl L) (hp : p < L.length) : Okr (bitR r L p).2.1 ∧ Okl (bitR r L p).2.2 ∧ (bitR r L p).2.2.length = L.length :=
  ⟨takeR_ok h (boundR_ok h (hl.at_ hp)).1 (boundR_ok h (hl.at_ hp)).2, hl.set (saw_ok (hl.at_ hp) _), by simp [bitR]⟩
/-- A reader at the beginning. -/
def openN : Nat → List UInt8 → Rst
  | 0, b => ⟨b, 0, 4294967295, false⟩
  | k + 1, b => nextR (openN k b)
theorem openN_ok : ∀ (k : Nat) (b : List UInt8), (openN k b).num < 256 ^ k ∧ (openN k b).width = 4294967295 ∧ Sho (openN k b) ∧ (openN k b).rest.length ≤ b.length
  | 0, b => ⟨by show (0 : Nat) < 1; decide, rfl, (fun h => by cases h), Nat.le_refl _⟩
  | k + 1, b => by
    obtain ⟨h1, h2, h3, h4⟩ := openN_ok k b
    refine ⟨?_, ?_, nextR_sho h3, Nat.le_trans (nextR_len _) h4⟩
    · show (nextR (openN k b)).num < _
      rw [Nat.pow_succ]
      unfold nextR
      split
      · show _ * 256 < _; omega
      · rename_i x t _
        have := UInt8.toNat_lt x
        show _ * 256 + x.toNat < _
        omega
    · show (nextR (openN k b)).width = _
      unfold nextR
      split <;> exact h2
end Go.Proofs.Ytohndlfekecfoaa
