/-
  Layer 10's words: what was put is taken (of no program).
-/
import Derived.Test.YtohndlfekecfoaaCodVal
import Derived.Test.YtohndlfekecfoaaCodRawM
namespace Go.Proofs.Ytohndlfekecfoaa
set_option maxRecDepth 1000000

/-- Bytes B go on from what a writer keeps. -/
def Goes (s : Cst) (B : List UInt8) : Prop := 4 + s.out.length ≤ B.length ∧ tot s ≤ valB (B.take (4 + s.out.length)) ∧ valB (B.take (4 + s.out.length)) < tot s + s.width
/-- The reader of B, where the writer keeps s. -/
def rdAt (B : List UInt8) (s : Cst) : Rst := ⟨B.drop (4 + s.out.length), valB (B.take (4 + s.out.length)) - tot s, s.width, false⟩
structure Okw (s : Cst) : Prop where
  ok : Okc s
  nov : Nov s
theorem putS_okw {s : Cst} {bound : Nat} (b : Bool) (h : Okw s) (hb : Okb s bound) : Okw (putS s bound b) := ⟨putS_ok h.ok hb, putS_nov b h.ok hb h.nov⟩

/-- Back from behind a bit: where the number lies. -/
theorem goes_bit {s : Cst} {bound : Nat} {b : Bool} {B : List UInt8} (h : Okw s) (hb : Okb s bound) (hg : Goes (putS s bound b) B) :
    4 + s.out.length ≤ B.length ∧ from_ s bound b ≤ valB (B.take (4 + s.out.length)) ∧ valB (B.take (4 + s.out.length)) < from_ s bound b + wide_ s bound b := by
  obtain ⟨k, k1, k2, k3, k4, _⟩ := putS_val b h.ok hb h.nov
  obtain ⟨g1, g2, g3⟩ := hg
  rw [k2] at g1 g2 g3
  rw [k3] at g2 g3
  rw [k4] at g3
  rcases (show k = 0 ∨ k = 1 by omega) with rfl | rfl
  · simp only [Nat.pow_zero, Nat.mul_one, Nat.add_zero] at g1 g2 g3
    exact ⟨g1, g2, g3⟩
  · have hlt : 4 + s.out.length < B.length := by omega
    have hx := UInt8.toNat_lt B[4 + s.out.length]
    rw [show 4 + (s.out.length + 1) = 4 + s.out.length + 1 by omega, valB_take B _ _ (List.getElem?_eq_getElem hlt)] at g2 g3
    rw [Nat.pow_one] at g2 g3
    omega
theorem goes_back {s : Cst} {bound : Nat} {b : Bool} {B : List UInt8} (h : Okw s) (hb : Okb s bound) (hg : Goes (putS s bound b) B) : Goes s B := by
  obtain ⟨g1, g2, g3⟩ := goes_bit h hb hg
  have b2 := hb.most
  refine ⟨g1, ?_, ?_⟩ <;> (unfold from_ at g2 g3; unfold wide_ at g3; cases b <;> simp at g2 g3 <;> omega)
/-- A bit is taken as it was put. -/
theorem take_put {s : Cst} {bound : Nat} {b : Bool} {B : List UInt8} (h : Okw s) (hb : Okb s bound) (hg : Goes (putS s bound b) B) : takeR (rdAt B s) bound = (b, rdAt B (putS s bound b)) := by
  obtain ⟨f1, f2, f3⟩ := goes_bit h hb hg
  obtain ⟨k, k1, k2, k3, k4, k5⟩ := putS_val b h.ok hb h.nov
  obtain ⟨g1, g2, g3⟩ := hg
  have b2 := hb.most
  -- the number less what is below the bit
  have hnum : (rdAt B s).num = valB (B.take (4 + s.out.length)) - tot s := rfl
  have hw : widR ⟨(rdAt B s).rest, valB (B.take (4 + s.out.length)) - from_ s bound b, wide_ s bound b, false⟩ = rdAt B (putS s bound b) := by
    unfold widR rdAt
    rw [k2, k3, k4]
    simp only
    rcases (show k = 0 ∨ k = 1 by omega) with rfl | rfl
    · have : ¬ wide_ s bound b < 16777216 := fun e => by have := k5.2 e; omega
      rw [if_neg this]
      simp
    · rw [if_pos (k5.1 rfl)]
      have hlt : 4 + s.out.length < B.length := by rw [k2] at g1; omega
      have hx := UInt8.toNat_lt B[4 + s.out.length]
      rw [show 4 + (s.out.length + 1) = 4 + s.out.length + 1 by omega, valB_take B _ _ (List.getElem?_eq_getElem hlt)]
      have hd : B.drop (4 + s.out.length) = B[4 + s.out.length] :: B.drop (4 + s.out.length + 1) := List.drop_eq_getElem_cons hlt
      simp only [nextR, hd, Nat.pow_one]
      congr 1
      rw [Nat.min_eq_left (by omega)]
      omega
  unfold takeR
  cases b with
  | false =>
    have e1 : from_ s bound false = tot s := rfl
    have e2 : wide_ s bound false = bound := rfl
    rw [e1, e2] at hw f3
    rw [if_pos (by rw [hnum]; omega)]
    exact congrArg (Prod.mk false) hw
  | true =>
    have e1 : from_ s bound true = tot s + bound := rfl
    have e2 : wide_ s bound true = s.width - bound := rfl
    rw [e1, e2] at hw f3
    rw [e1] at f2
    rw [if_neg (by rw [hnum]; omega)]
    rw [← Nat.sub_sub] at hw
    exact congrArg (Prod.mk true) hw
/-- Bytes at the end. -/
theorem lowB_val (n : Nat) (h : n < 4294967296) (l : List UInt8) : valB (l ++ lowB n) = valB l * 4294967296 + n := by
  have e : l ++ lowB n = (((l ++ [UInt8.ofNat (n / 16777216)]) ++ [UInt8.ofNat (n / 65536 % 256)]) ++ [UInt8.ofNat (n / 256 % 256)]) ++ [UInt8.ofNat (n % 256)] := by simp [lowB]
  have u : ∀ m, m < 256 → (UInt8.ofNat m).toNat = m := fun m hm => by rw [UInt8.toNat_ofNat']; omega
  rw [e, valB_one, valB_one, valB_one, valB_one, u _ (by omega), u _ (by omega), u _ (by omega), u _ (by omega)]
  omega
theorem goes_end {s : Cst} (h : Okc s) : Goes s (endS s) ∧ rdAt (endS s) s = ⟨[], 0, s.width, false⟩ := by
  have hl : (endS s).length = 4 + s.out.length := by simp [endS, lowB]; omega
  have ht : (endS s).take (4 + s.out.length) = endS s := List.take_of_length_le (by omega)
  have hv : valB (endS s) = tot s := lowB_val s.low h.low s.out
  have := h.wide
  refine ⟨⟨by omega, by rw [ht, hv]; exact Nat.le_refl _, by rw [ht, hv]; omega⟩, ?_⟩
  unfold rdAt
  rw [ht, hv, Nat.sub_self, List.drop_of_length_le (by omega)]
theorem rdAt_begin {B : List UInt8} (h : 4 ≤ B.length) : openN 4 B = rdAt B beginS := by
  rcases B with _ | ⟨x0, _ | ⟨x1, _ | ⟨x2, _ | ⟨x3, t⟩⟩⟩⟩
  · simp at h
  · simp at h
  · simp at h
  · simp at h
  · rfl

/-- The lowest k bits of a number. -/
def lowN (n : Int) (k : Nat) : Nat := (n % 2 ^ k).toNat
theorem lowN_cast (n : Int) (k : Nat) : ((lowN n k : Nat) : Int) = n % 2 ^ k := Int.toNat_of_nonneg (Int.emod_nonneg n (by have : (0 : Int) < 2 ^ k := Int.pow_pos (by decide); omega))
theorem lowN_succ (n : Int) (k : Nat) : lowN n (k + 1) = (bitAt n k).toNat * 2 ^ k + lowN n k := by
  have hp : (0 : Int) < 2 ^ k := Int.pow_pos (by decide)
  have h1 : n % 2 ^ (k + 1) = (n / 2 ^ k) % 2 * 2 ^ k + n % 2 ^ k := by
    have e1 := Int.mul_ediv_add_emod n (2 ^ k)
    have e2 := Int.mul_ediv_add_emod (n / 2 ^ k) 2
    have e3 : n / 2 ^ k / 2 = n / (2 ^ k * 2) := Int.ediv_ediv_of_nonneg (by omega)
    have e4 := Int.mul_ediv_add_emod n (2 ^ (k + 1))
    rw [e3] at e2
    rw [Int.pow_succ] at e4 ⊢
    generalize n / (2 ^ k * 2) = a at *
    generalize n % (2 ^ k * 2) = r at *
    generalize n / 2 ^ k = c at *
    generalize n % 2 ^ k = d at *
    generalize c % 2 = f at *
    generalize (2 : Int) ^ k = p at *
    have e5 : p * c = p * (2 * a) + p * f := by rw [← e2, Int.mul_add]
    have e6 : p * 2 * a = p * (2 * a) := Int.mul_assoc _ _ _
    rw [Int.mul_comm f p]
    omega
  have hb : ((bitAt n k).toNat : Int) = (n / 2 ^ k) % 2 := by
    unfold bitAt
    by_cases h : (n / 2 ^ k) % 2 = 1
    · simp [h]
    · have : (n / 2 ^ k) % 2 = 0 := by omega
      simp [this]
  have h2 := lowN_cast n (k + 1)
  have h3 := lowN_cast n k
  have h4 : (((bitAt n k).toNat * 2 ^ k : Nat) : Int) = (n / 2 ^ k) % 2 * 2 ^ k := by rw [Int.natCast_mul, hb]; norm_cast
  omega
theorem goes_even (n : Int) : ∀ (k : Nat) {s : Cst} {B : List UInt8}, Okw s → Goes (evenS s n k) B → Goes s B
  | 0, _, _, _, h => h
  | k + 1, _, _, h, hg => goes_back h (even_ok h.ok) (goes_even n k (putS_okw _ h (even_ok h.ok)) hg)
theorem evenS_okw (n : Int) : ∀ (k : Nat) {s : Cst}, Okw s → Okw (evenS s n k)
  | 0, _, h => h
  | k + 1, _, h => evenS_okw n k (putS_okw _ h (even_ok h.ok))
theorem even_back (n : Int) : ∀ (k acc : Nat) {s : Cst} {B : List UInt8}, Okw s → Goes (evenS s n k) B → evenR (rdAt B s) acc k = (acc * 2 ^ k + lowN n k, rdAt B (evenS s n k))
  | 0, acc, s, B, _, _ => by
    have : lowN n 0 = 0 := by simp [lowN, Int.emod_one]
    rw [this, evenR, evenS, Nat.pow_zero, Nat.mul_one, Nat.add_zero]
  | k + 1, acc, s, B, h, hg => by
    have ho := putS_okw (bitAt n k) h (even_ok h.ok)
    have h1 := take_put h (even_ok h.ok) (goes_even n k ho hg)
    have h2 := even_back n k (2 * acc + (bitAt n k).toNat) ho hg
    rw [evenR, show (rdAt B s).width = s.width from rfl, h1]
    simp only
    rw [h2, lowN_succ, evenS]
    congr 1
    rw [Nat.pow_succ, Nat.add_mul, Nat.mul_comm 2 acc, Nat.mul_assoc acc 2, Nat.mul_comm 2 (2 ^ k), Nat.add_assoc]
theorem bit_bound {s : Cst} {L : List Nat} {p : Nat} (h : Okw s) (hl : Okl L) (hp : p < L.length) : Okb s (s.width / 2048 * L.getD p 0) := bound_ok h.ok (hl.at_ hp)
theorem bitS_okw {s : Cst} {L : List Nat} {p : Nat} (b : Bool) (h : Okw s) (hl : Okl L) (hp : p < L.length) : Okw (bitS s L p b).1 ∧ Okl (bitS s L p b).2 :=
  ⟨putS_okw b h (bit_bound h hl hp), hl.set (saw_ok (hl.at_ hp) b)⟩
theorem bit_back {s : Cst} {L : List Nat} {p : Nat} {b : Bool} {B : List UInt8} (h : Okw s) (hl : Okl L) (hp : p < L.length) (hg : Goes (bitS s L p b).1 B) : bitR (rdAt B s) L p = (b, rdAt B (bitS s L p b).1, (bitS s L p b).2) := by
  have h1 := take_put h (bit_bound h hl hp) hg
  unfold bitR
  show ((takeR (rdAt B s) (s.width / 2048 * L.getD p 0)).1, (takeR (rdAt B s) (s.width / 2048 * L.getD p 0)).2, L.set p (saw (L.getD p 0) (takeR (rdAt B s) (s.width / 2048 * L.getD p 0)).1)) = _
  rw [h1]
  rfl
theorem goes_tree (n : Int) : ∀ (k p : Nat) {s : Cst} {L : List Nat} {B : List UInt8}, Okw s → Okl L → (p + 1) * 2 ^ k ≤ 2 * L.length → Goes (treeS s L n k p).1 B → Goes s B
  | 0, _, _, _, _, _, _, _, h => h
  | k + 1, p, s, L, B, h, hl, hp, hg => by
    have ho := bitS_okw (bitAt n k) h hl (tree_lt hp)
    exact goes_back h (bit_bound h hl (tree_lt hp)) (goes_tree n k _ ho.1 ho.2 (by rw [bitS_len]; exact tree_next _ hp) hg)
theorem treeS_okw (n : Int) : ∀ (k p : Nat) {s : Cst} {L : List Nat}, Okw s → Okl L → (p + 1) * 2 ^ k ≤ 2 * L.length → Okw (treeS s L n k p).1 ∧ Okl (treeS s L n k p).2
  | 0, _, _, _, h, hl, _ => ⟨h, hl⟩
  | k + 1, p, s, L, h, hl, hp => by
    have ho := bitS_okw (bitAt n k) h hl (tree_lt hp)
    exact treeS_okw n k _ ho.1 ho.2 (by rw [bitS_len]; exact tree_next _ hp)
theorem tree_back (n : Int) : ∀ (k p : Nat) {s : Cst} {L : List Nat} {B : List UInt8}, Okw s → Okl L → (p + 1) * 2 ^ k ≤ 2 * L.length → Goes (treeS s L n k p).1 B →
    treeR (rdAt B s) L k p = (p * 2 ^ k + lowN n k, rdAt B (treeS s L n k p).1, (treeS s L n k p).2)
  | 0, p, s, L, B, _, _, _, _ => by
    have : lowN n 0 = 0 := by simp [lowN, Int.emod_one]
    rw [this, treeR, treeS, Nat.pow_zero, Nat.mul_one, Nat.add_zero]
  | k + 1, p, s, L, B, h, hl, hp, hg => by
    have ho := bitS_okw (bitAt n k) h hl (tree_lt hp)
    have hq : (2 * p + (bitAt n k).toNat + 1) * 2 ^ k ≤ 2 * (bitS s L p (bitAt n k)).2.length := by rw [bitS_len]; exact tree_next _ hp
    have h1 := bit_back h hl (tree_lt hp) (goes_tree n k _ ho.1 ho.2 hq hg)
    have h2 := tree_back n k (2 * p + (bitAt n k).toNat) ho.1 ho.2 hq hg
    rw [treeR, h1]
    simp only
    rw [h2, lowN_succ, treeS]
    congr 1
    rw [Nat.pow_succ, Nat.add_mul, Nat.mul_comm 2 p, Nat.mul_assoc p 2, Nat.mul_comm 2 (2 ^ k), Nat.add_assoc]
end Go.Proofs.Ytohndlfekecfoaa
