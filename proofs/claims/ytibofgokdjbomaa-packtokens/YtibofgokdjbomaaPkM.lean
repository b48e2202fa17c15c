/-
  Layer 11's words: tokens, as a coder tells them (of no program).
-/
import Derived.Test.YtibofgokdjbomaaCodBackM
import Derived.Test.YtibofgokdjbomaaLzBack
namespace Go.Proofs.Ytibofgokdjbomaa
set_option maxRecDepth 1000000

theorem okl_reps (n : Nat) : Okl (List.replicate n 1024) := by
  intro c hc
  rw [List.eq_of_mem_replicate hc]
  exact ⟨by decide, by decide⟩
/-- k bits of n, each of the chance at its place behind a base. -/
def treeB (s : Cst) (L : List Nat) (base : Nat) (n : Int) : Nat → Nat → Cst × List Nat
  | 0, _ => (s, L)
  | k + 1, p => treeB (bitS s L (base + p) (bitAt n k)).1 (bitS s L (base + p) (bitAt n k)).2 base n k (2 * p + (bitAt n k).toNat)
def treeRB (r : Rst) (L : List Nat) (base : Nat) : Nat → Nat → Nat × Rst × List Nat
  | 0, p => (p, r, L)
  | k + 1, p => treeRB (bitR r L (base + p)).2.1 (bitR r L (base + p)).2.2 base k (2 * p + (bitR r L (base + p)).1.toNat)
theorem treeB_len (n : Int) (base : Nat) : ∀ (k p : Nat) (s : Cst) (L : List Nat), (treeB s L base n k p).2.length = L.length ∧ (treeB s L base n k p).1.out.length ≤ s.out.length + k
  | 0, _, s, L => ⟨rfl, Nat.le_refl _⟩
  | k + 1, p, s, L => by
    obtain ⟨h1, h2⟩ := treeB_len n base k (2 * p + (bitAt n k).toNat) (bitS s L (base + p) (bitAt n k)).1 (bitS s L (base + p) (bitAt n k)).2
    have h3 := putS_len s (s.width / 2048 * L.getD (base + p) 0) (bitAt n k)
    simp only [treeB]
    refine ⟨h1.trans (bitS_len _ _ _ _), ?_⟩
    simp only [bitS] at h2 ⊢
    omega
theorem treeB_okw (n : Int) (base m : Nat) : ∀ (k p : Nat) {s : Cst} {L : List Nat}, Okw s → Okl L → base + m ≤ L.length → (p + 1) * 2 ^ k ≤ 2 * m → Okw (treeB s L base n k p).1 ∧ Okl (treeB s L base n k p).2
  | 0, _, _, _, h, hl, _, _ => ⟨h, hl⟩
  | k + 1, p, s, L, h, hl, hm, hp => by
    have hlt := tree_lt hp
    have ho := bitS_okw (p := base + p) (bitAt n k) h hl (by omega)
    exact treeB_okw n base m k _ ho.1 ho.2 (by rw [bitS_len]; exact hm) (tree_next _ hp)
theorem goes_treeB (n : Int) (base m : Nat) : ∀ (k p : Nat) {s : Cst} {L : List Nat} {B : List UInt8}, Okw s → Okl L → base + m ≤ L.length → (p + 1) * 2 ^ k ≤ 2 * m → Goes (treeB s L base n k p).1 B → Goes s B
  | 0, _, _, _, _, _, _, _, _, h => h
  | k + 1, p, s, L, B, h, hl, hm, hp, hg => by
    have hlt := tree_lt hp
    have ho := bitS_okw (p := base + p) (bitAt n k) h hl (by omega)
    exact goes_back h (bit_bound h hl (by omega)) (goes_treeB n base m k _ ho.1 ho.2 (by rw [bitS_len]; exact hm) (tree_next _ hp) hg)
theorem treeB_back (n : Int) (base m : Nat) : ∀ (k p : Nat) {s : Cst} {L : List Nat} {B : List UInt8}, Okw s → Okl L → base + m ≤ L.length → (p + 1) * 2 ^ k ≤ 2 * m → Goes (treeB s L base n k p).1 B →
    treeRB (rdAt B s) L base k p = (p * 2 ^ k + lowN n k, rdAt B (treeB s L base n k p).1, (treeB s L base n k p).2)
  | 0, p, s, L, B, _, _, _, _, _ => by
    have : lowN n 0 = 0 := by simp [lowN, Int.emod_one]
    rw [this, treeRB, treeB, Nat.pow_zero, Nat.mul_one, Nat.add_zero]
  | k + 1, p, s, L, B, h, hl, hm, hp, hg => by
    have hlt := tree_lt hp
    have ho := bitS_okw (p := base + p) (bitAt n k) h hl (by omega)
    have hm2 : base + m ≤ (bitS s L (base + p) (bitAt n k)).2.length := by rw [bitS_len]; exact hm
    have h1 := bit_back h hl (by omega) (goes_treeB n base m k _ ho.1 ho.2 hm2 (tree_next _ hp) hg)
    have h2 := treeB_back n base m k (2 * p + (bitAt n k).toNat) ho.1 ho.2 hm2 (tree_next _ hp) hg
    rw [treeRB, h1]
    simp only
    rw [h2, lowN_succ, treeB]
    congr 1
    rw [Nat.pow_succ, Nat.add_mul, Nat.mul_comm 2 p, Nat.mul_assoc p 2, Nat.mul_comm 2 (2 ^ k), Nat.add_assoc]
theorem treeRB_ok (base m : Nat) : ∀ (k p : Nat) {r : Rst} {L : List Nat}, Okr r → Okl L → base + m ≤ L.length → (p + 1) * 2 ^ k ≤ 2 * m →
    Okr (treeRB r L base k p).2.1 ∧ Okl (treeRB r L base k p).2.2 ∧ (treeRB r L base k p).2.2.length = L.length ∧ p * 2 ^ k ≤ (treeRB r L base k p).1 ∧ (treeRB r L base k p).1 < (p + 1) * 2 ^ k
  | 0, p, r, L, h, hl, _, _ => ⟨h, hl, rfl, by simp [treeRB], by simp [treeRB]⟩
  | k + 1, p, r, L, h, hl, hm, hp => by
    have hlt := tree_lt hp
    have ho := bitR_ok (p := base + p) h hl (by omega)
    obtain ⟨h1, h2, h3, h4, h5⟩ := treeRB_ok base m k (2 * p + (bitR r L (base + p)).1.toNat) ho.1 ho.2.1 (by rw [ho.2.2]; exact hm) (tree_next _ hp)
    refine ⟨h1, h2, h3.trans ho.2.2, ?_, ?_⟩
    · refine Nat.le_trans ?_ h4
      rw [Nat.pow_succ, Nat.add_mul, Nat.mul_comm 2 p, Nat.mul_assoc p 2, Nat.mul_comm 2 (2 ^ k)]
      omega
    · refine Nat.lt_of_lt_of_le h5 ?_
      have hb : (bitR r L (base + p)).1.toNat ≤ 1 := by cases (bitR r L (base + p)).1 <;> decide
      have e : (p + 1) * 2 ^ (k + 1) = (2 * p + 2) * 2 ^ k := by rw [Nat.pow_succ, Nat.mul_comm (2 ^ k) 2, ← Nat.mul_assoc]; congr 1; omega
      rw [e]
      exact Nat.mul_le_mul_right _ (by omega)

/-- How many bits a number has. -/
def nbits (n : Nat) : Nat := if n = 0 then 0 else Nat.log2 n + 1
theorem nbits_zero : nbits 0 = 0 := rfl
theorem nbits_pos {n : Nat} (h : n ≠ 0) : 1 ≤ nbits n ∧ 2 ^ (nbits n - 1) ≤ n ∧ n < 2 ^ nbits n := by
  unfold nbits
  rw [if_neg h]
  exact ⟨by omega, Nat.log2_self_le h, Nat.lt_log2_self⟩
theorem nbits_is {n k : Nat} (h1 : 2 ^ k ≤ n) (h2 : n < 2 ^ (k + 1)) : nbits n = k + 1 := by
  have hn : n ≠ 0 := by have := Nat.pow_pos (n := k) (show 0 < 2 by decide); omega
  obtain ⟨p1, p2, p3⟩ := nbits_pos hn
  have a1 : k < nbits n := (Nat.pow_lt_pow_iff_right (by decide)).1 (Nat.lt_of_le_of_lt h1 p3)
  have a2 : nbits n - 1 < k + 1 := (Nat.pow_lt_pow_iff_right (by decide)).1 (Nat.lt_of_le_of_lt p2 h2)
  omega
theorem nbits_half {n : Nat} (h : n ≠ 0) : nbits n = nbits (n / 2) + 1 := by
  by_cases h1 : n = 1
  · subst h1; rfl
  · obtain ⟨p1, p2, p3⟩ := nbits_pos (n := n / 2) (by omega)
    obtain ⟨k, hk⟩ : ∃ k, nbits (n / 2) = k + 1 := ⟨nbits (n / 2) - 1, by omega⟩
    rw [hk] at p2 p3 ⊢
    simp only [Nat.add_sub_cancel] at p2
    have e1 : 2 ^ (k + 1) = 2 ^ k * 2 := Nat.pow_succ ..
    have e2 : 2 ^ (k + 1 + 1) = 2 ^ (k + 1) * 2 := Nat.pow_succ ..
    exact nbits_is (by omega) (by omega)
theorem nbits_le {n k : Nat} (h : n < 2 ^ k) : nbits n ≤ k := by
  by_cases h0 : n = 0
  · subst h0; exact Nat.zero_le _
  · obtain ⟨p1, p2, p3⟩ := nbits_pos h0
    have : nbits n - 1 < k := (Nat.pow_lt_pow_iff_right (by decide)).1 (Nat.lt_of_le_of_lt p2 h)
    omega
theorem lowN_same {n k : Nat} (h : n < 2 ^ k) : lowN (n : Int) k = n := by
  have := lowN_cast (n : Int) k
  have e : ((n : Int) % 2 ^ k) = ((n % 2 ^ k : Nat) : Int) := by norm_cast
  rw [e, Nat.mod_eq_of_lt h] at this
  omega
theorem lowN_top {n k : Nat} (h1 : 2 ^ k ≤ n) (h2 : n < 2 ^ (k + 1)) : 2 ^ k + lowN (n : Int) k = n := by
  have := lowN_cast (n : Int) k
  have e : ((n : Int) % 2 ^ k) = ((n % 2 ^ k : Nat) : Int) := by norm_cast
  have e1 : 2 ^ (k + 1) = 2 ^ k * 2 := Nat.pow_succ ..
  have e2 : n % 2 ^ k = n - 2 ^ k := by rw [Nat.mod_eq_sub_mod h1, Nat.mod_eq_of_lt (by omega)]
  rw [e, e2] at this
  omega

/-- What writer and reader know of the tokens ahead. -/
structure Kst where
  L : List Nat
  kind : Nat
  h : List UInt8
def kst0 : Kst := ⟨List.replicate 2322 1024, 0, []⟩
def kindN (t : Tok) : Nat := if 0 < t.len then 1 else 0
def upper (h : List UInt8) : Nat := (h.getLastD 0).toNat / 32
theorem upper_lt (h : List UInt8) : upper h < 8 := by
  have := UInt8.toNat_lt (h.getLastD 0)
  unfold upper
  omega
structure Okk (x : Kst) : Prop where
  l : Okl x.L
  len : x.L.length = 2322
  k : x.kind ≤ 1
theorem kst0_ok : Okk kst0 := ⟨okl_reps _, List.length_replicate, Nat.zero_le _⟩
/-- A token is put. -/
def putT (s : Cst) (x : Kst) (t : Tok) : Cst × List Nat :=
  if 0 < t.len then
    (evenS (treeB (treeB (bitS s x.L x.kind true).1 (bitS s x.L x.kind true).2 2050 (t.len - 3) 8 1).1 (treeB (bitS s x.L x.kind true).1 (bitS s x.L x.kind true).2 2050 (t.len - 3) 8 1).2 2306 (nbits (t.back - 1).toNat : Int) 4 1).1 (t.back - 1) (nbits (t.back - 1).toNat - 1),
     (treeB (treeB (bitS s x.L x.kind true).1 (bitS s x.L x.kind true).2 2050 (t.len - 3) 8 1).1 (treeB (bitS s x.L x.kind true).1 (bitS s x.L x.kind true).2 2050 (t.len - 3) 8 1).2 2306 (nbits (t.back - 1).toNat : Int) 4 1).2)
  else treeB (bitS s x.L x.kind false).1 (bitS s x.L x.kind false).2 (2 + 256 * upper x.h) (t.lit.toNat : Int) 8 1
def nextK (x : Kst) (L : List Nat) (t : Tok) : Kst := ⟨L, kindN t, putTok x.h t⟩
structure Pst where
  s : Cst
  x : Kst
def pst0 : Pst := ⟨beginS, kst0⟩
def putP (p : Pst) (t : Tok) : Pst := ⟨(putT p.s p.x t).1, nextK p.x (putT p.s p.x t).2 t⟩
def putsP (p : Pst) : List Tok → Pst
  | [] => p
  | t :: l => putsP (putP p t) l
def writeS (l : List Tok) : List UInt8 := endS (putsP pst0 l).s
structure Okp (p : Pst) : Prop where
  s : Okw p.s
  x : Okk p.x
theorem pst0_ok : Okp pst0 := ⟨⟨begin_ok, nov_begin⟩, kst0_ok⟩
theorem kindN_le (t : Tok) : kindN t ≤ 1 := by unfold kindN; split <;> decide
theorem kind_lt {x : Kst} (h : Okk x) : x.kind < x.L.length := by rw [h.len]; have := h.k; omega
theorem putT_ok {s : Cst} {x : Kst} (t : Tok) (h : Okw s) (hx : Okk x) : Okw (putT s x t).1 ∧ Okl (putT s x t).2 ∧ (putT s x t).2.length = 2322 := by
  unfold putT
  split
  · obtain ⟨a1, a2⟩ := bitS_okw true h hx.l (kind_lt hx)
    have a3 := (bitS_len s x.L x.kind true).trans hx.len
    obtain ⟨b1, b2⟩ := treeB_okw (t.len - 3) 2050 256 8 1 a1 a2 (by rw [a3]; decide) (by decide)
    have b3 := (treeB_len (t.len - 3) 2050 8 1 (bitS s x.L x.kind true).1 (bitS s x.L x.kind true).2).1.trans a3
    obtain ⟨c1, c2⟩ := treeB_okw (nbits (t.back - 1).toNat : Int) 2306 16 4 1 b1 b2 (by rw [b3]; decide) (by decide)
    exact ⟨evenS_okw _ _ c1, c2, (treeB_len _ _ _ _ _ _).1.trans b3⟩
  · obtain ⟨a1, a2⟩ := bitS_okw false h hx.l (kind_lt hx)
    have a3 := (bitS_len s x.L x.kind false).trans hx.len
    have := upper_lt x.h
    obtain ⟨b1, b2⟩ := treeB_okw (t.lit.toNat : Int) (2 + 256 * upper x.h) 256 8 1 a1 a2 (by rw [a3]; omega) (by decide)
    exact ⟨b1, b2, (treeB_len _ _ _ _ _ _).1.trans a3⟩
theorem putP_ok {p : Pst} (t : Tok) (h : Okp p) : Okp (putP p t) := by
  obtain ⟨h1, h2, h3⟩ := putT_ok t h.s h.x
  exact ⟨h1, h2, h3, kindN_le t⟩
theorem putsP_ok : ∀ (l : List Tok) {p : Pst}, Okp p → Okp (putsP p l)
  | [], _, h => h
  | t :: l, _, h => putsP_ok l (putP_ok t h)
theorem putsP_app : ∀ (a b : List Tok) (p : Pst), putsP p (a ++ b) = putsP (putsP p a) b
  | [], _, _ => rfl
  | t :: a, b, p => putsP_app a b (putP p t)
theorem putsP_take (l : List Tok) (p : Pst) (k : Nat) (hk : k < l.length) : putsP p (l.take (k + 1)) = putP (putsP p (l.take k)) l[k] := by
  rw [List.take_succ_eq_append_getElem hk, putsP_app]
  rfl
theorem putT_len (s : Cst) (x : Kst) (t : Tok) (hb : t.back ≤ 32768) : (putT s x t).1.out.length ≤ s.out.length + 28 := by
  unfold putT
  split
  · have h1 := putS_len s (s.width / 2048 * x.L.getD x.kind 0) true
    have h2 := (treeB_len (t.len - 3) 2050 8 1 (bitS s x.L x.kind true).1 (bitS s x.L x.kind true).2).2
    have h3 := (treeB_len (nbits (t.back - 1).toNat : Int) 2306 4 1 (treeB (bitS s x.L x.kind true).1 (bitS s x.L x.kind true).2 2050 (t.len - 3) 8 1).1 (treeB (bitS s x.L x.kind true).1 (bitS s x.L x.kind true).2 2050 (t.len - 3) 8 1).2).2
    have h4 := evenS_len (t.back - 1) (nbits (t.back - 1).toNat - 1) (treeB (treeB (bitS s x.L x.kind true).1 (bitS s x.L x.kind true).2 2050 (t.len - 3) 8 1).1 (treeB (bitS s x.L x.kind true).1 (bitS s x.L x.kind true).2 2050 (t.len - 3) 8 1).2 2306 (nbits (t.back - 1).toNat : Int) 4 1).1
    have h5 : nbits (t.back - 1).toNat ≤ 15 := nbits_le (by omega)
    simp only [bitS] at h2 h3 h4 ⊢
    omega
  · have h1 := putS_len s (s.width / 2048 * x.L.getD x.kind 0) false
    have h2 := (treeB_len (t.lit.toNat : Int) (2 + 256 * upper x.h) 8 1 (bitS s x.L x.kind false).1 (bitS s x.L x.kind false).2).2
    simp only [bitS] at h2 ⊢
    omega
theorem goes_putT {s : Cst} {x : Kst} {t : Tok} {B : List UInt8} (h : Okw s) (hx : Okk x) (hg : Goes (putT s x t).1 B) : Goes s B := by
  unfold putT at hg
  split at hg
  · obtain ⟨a1, a2⟩ := bitS_okw true h hx.l (kind_lt hx)
    have a3 := (bitS_len s x.L x.kind true).trans hx.len
    obtain ⟨b1, b2⟩ := treeB_okw (t.len - 3) 2050 256 8 1 a1 a2 (by rw [a3]; decide) (by decide)
    have b3 := (treeB_len (t.len - 3) 2050 8 1 (bitS s x.L x.kind true).1 (bitS s x.L x.kind true).2).1.trans a3
    obtain ⟨c1, c2⟩ := treeB_okw (nbits (t.back - 1).toNat : Int) 2306 16 4 1 b1 b2 (by rw [b3]; decide) (by decide)
    have g1 := goes_even _ _ c1 hg
    have g2 := goes_treeB _ 2306 16 4 1 b1 b2 (by rw [b3]; decide) (by decide) g1
    have g3 := goes_treeB _ 2050 256 8 1 a1 a2 (by rw [a3]; decide) (by decide) g2
    exact goes_back h (bit_bound h hx.l (kind_lt hx)) g3
  · obtain ⟨a1, a2⟩ := bitS_okw false h hx.l (kind_lt hx)
    have a3 := (bitS_len s x.L x.kind false).trans hx.len
    have := upper_lt x.h
    have g3 := goes_treeB _ (2 + 256 * upper x.h) 256 8 1 a1 a2 (by rw [a3]; omega) (by decide) hg
    exact goes_back h (bit_bound h hx.l (kind_lt hx)) g3

/-- A token is taken. -/
def takeT (r : Rst) (x : Kst) : Tok × Rst × List Nat :=
  if (bitR r x.L x.kind).1 then
    (⟨0, 3 + ((treeRB (bitR r x.L x.kind).2.1 (bitR r x.L x.kind).2.2 2050 8 1).1 - 256 : Nat),
      1 + ((2 ^ ((treeRB (treeRB (bitR r x.L x.kind).2.1 (bitR r x.L x.kind).2.2 2050 8 1).2.1 (treeRB (bitR r x.L x.kind).2.1 (bitR r x.L x.kind).2.2 2050 8 1).2.2 2306 4 1).1 - 16) / 2
        + (evenR (treeRB (treeRB (bitR r x.L x.kind).2.1 (bitR r x.L x.kind).2.2 2050 8 1).2.1 (treeRB (bitR r x.L x.kind).2.1 (bitR r x.L x.kind).2.2 2050 8 1).2.2 2306 4 1).2.1 0 ((treeRB (treeRB (bitR r x.L x.kind).2.1 (bitR r x.L x.kind).2.2 2050 8 1).2.1 (treeRB (bitR r x.L x.kind).2.1 (bitR r x.L x.kind).2.2 2050 8 1).2.2 2306 4 1).1 - 16 - 1)).1 : Nat) : Int)⟩,
     (evenR (treeRB (treeRB (bitR r x.L x.kind).2.1 (bitR r x.L x.kind).2.2 2050 8 1).2.1 (treeRB (bitR r x.L x.kind).2.1 (bitR r x.L x.kind).2.2 2050 8 1).2.2 2306 4 1).2.1 0 ((treeRB (treeRB (bitR r x.L x.kind).2.1 (bitR r x.L x.kind).2.2 2050 8 1).2.1 (treeRB (bitR r x.L x.kind).2.1 (bitR r x.L x.kind).2.2 2050 8 1).2.2 2306 4 1).1 - 16 - 1)).2,
     (treeRB (treeRB (bitR r x.L x.kind).2.1 (bitR r x.L x.kind).2.2 2050 8 1).2.1 (treeRB (bitR r x.L x.kind).2.1 (bitR r x.L x.kind).2.2 2050 8 1).2.2 2306 4 1).2.2)
  else
    (⟨UInt8.ofNat ((treeRB (bitR r x.L x.kind).2.1 (bitR r x.L x.kind).2.2 (2 + 256 * upper x.h) 8 1).1 - 256), 0, 0⟩,
     (treeRB (bitR r x.L x.kind).2.1 (bitR r x.L x.kind).2.2 (2 + 256 * upper x.h) 8 1).2.1,
     (treeRB (bitR r x.L x.kind).2.1 (bitR r x.L x.kind).2.2 (2 + 256 * upper x.h) 8 1).2.2)
theorem evenR_in : ∀ (k n : Nat) {r : Rst}, Okr r → Okr (evenR r n k).2 ∧ n * 2 ^ k ≤ (evenR r n k).1 ∧ (evenR r n k).1 < (n + 1) * 2 ^ k
  | 0, n, r, h => ⟨h, by simp [evenR], by simp [evenR]⟩
  | k + 1, n, r, h => by
    obtain ⟨e1, e2⟩ := evenB_ok h
    obtain ⟨h1, h2, h3⟩ := evenR_in k (2 * n + (takeR r (r.width / 2)).1.toNat) (takeR_ok h e1 e2)
    refine ⟨h1, ?_, ?_⟩
    · refine Nat.le_trans ?_ h2
      rw [Nat.pow_succ, Nat.add_mul, Nat.mul_comm 2 n, Nat.mul_assoc n 2, Nat.mul_comm 2 (2 ^ k)]
      omega
    · refine Nat.lt_of_lt_of_le h3 ?_
      have hb : (takeR r (r.width / 2)).1.toNat ≤ 1 := by cases (takeR r (r.width / 2)).1 <;> decide
      have e : (n + 1) * 2 ^ (k + 1) = (2 * n + 2) * 2 ^ k := by rw [Nat.pow_succ, Nat.mul_comm (2 ^ k) 2, ← Nat.mul_assoc]; congr 1; omega
      rw [e]
      exact Nat.mul_le_mul_right _ (by omega)
structure TakeOk (p : Tok × Rst × List Nat) : Prop where
  r : Okr p.2.1
  l : Okl p.2.2
  len : p.2.2.length = 2322
  t : right p.1 = true
theorem right_match {n k : Nat} (h1 : n ≤ 255) (h2 : k < 32768) : right ⟨0, 3 + (n : Int), 1 + (k : Int)⟩ = true := by
  unfold right
  rw [if_neg (by show ¬ (3 + (n : Int) = 0); omega)]
  simp
  omega
theorem back_lt {m d : Nat} (h1 : m ≤ 15) (h2 : d < 2 ^ (m - 1)) : 2 ^ m / 2 + d < 32768 := by
  rcases m with _ | m
  · simp at h2 ⊢; omega
  · simp only [Nat.add_sub_cancel] at h2
    have e1 : 2 ^ (m + 1) = 2 ^ m * 2 := Nat.pow_succ ..
    have e2 : 2 ^ m ≤ 2 ^ 14 := Nat.pow_le_pow_right (by decide) (by omega)
    omega
theorem takeT_ok {r : Rst} {x : Kst} (h : Okr r) (hx : Okk x) : TakeOk (takeT r x) := by
  obtain ⟨a1, a2, a3⟩ := bitR_ok (p := x.kind) h hx.l (kind_lt hx)
  rw [hx.len] at a3
  unfold takeT
  split
  · obtain ⟨b1, b2, b3, b4, b5⟩ := treeRB_ok 2050 256 8 1 a1 a2 (by rw [a3]; decide) (by decide)
    rw [a3] at b3
    obtain ⟨c1, c2, c3, c4, c5⟩ := treeRB_ok 2306 16 4 1 b1 b2 (by rw [b3]; decide) (by decide)
    rw [b3] at c3
    generalize treeRB (treeRB (bitR r x.L x.kind).2.1 (bitR r x.L x.kind).2.2 2050 8 1).2.1 (treeRB (bitR r x.L x.kind).2.1 (bitR r x.L x.kind).2.2 2050 8 1).2.2 2306 4 1 = C at *
    generalize (treeRB (bitR r x.L x.kind).2.1 (bitR r x.L x.kind).2.2 2050 8 1).1 = b at *
    obtain ⟨d1, _, d3⟩ := evenR_in (C.1 - 16 - 1) 0 c1
    refine ⟨d1, c2, c3, right_match (by omega) (back_lt (by omega) (by omega))⟩
  · have := upper_lt x.h
    obtain ⟨b1, b2, b3, b4, b5⟩ := treeRB_ok (2 + 256 * upper x.h) 256 8 1 a1 a2 (by rw [a3]; omega) (by decide)
    exact ⟨b1, b2, b3.trans a3, right_lit _⟩
theorem u8_same (c : UInt8) : UInt8.ofNat c.toNat = c := by simp
/-- A token is taken as it was put. -/
theorem take_putT {s : Cst} {x : Kst} {t : Tok} {B : List UInt8} (h : Okw s) (hx : Okk x) (ht : right t = true) (hg : Goes (putT s x t).1 B) : takeT (rdAt B s) x = (t, rdAt B (putT s x t).1, (putT s x t).2) := by
  obtain ⟨r1, r2, r3, r4, r5, r6⟩ := right_len ht
  unfold putT at hg ⊢
  by_cases hl : 0 < t.len
  · rw [if_pos hl] at hg ⊢
    obtain ⟨a1, a2⟩ := bitS_okw true h hx.l (kind_lt hx)
    have a3 := (bitS_len s x.L x.kind true).trans hx.len
    obtain ⟨b1, b2⟩ := treeB_okw (t.len - 3) 2050 256 8 1 a1 a2 (by rw [a3]; decide) (by decide)
    have b3 := (treeB_len (t.len - 3) 2050 8 1 (bitS s x.L x.kind true).1 (bitS s x.L x.kind true).2).1.trans a3
    obtain ⟨c1, c2⟩ := treeB_okw (nbits (t.back - 1).toNat : Int) 2306 16 4 1 b1 b2 (by rw [b3]; decide) (by decide)
    have g1 := goes_even _ _ c1 hg
    have g2 := goes_treeB _ 2306 16 4 1 b1 b2 (by rw [b3]; decide) (by decide) g1
    have g3 := goes_treeB _ 2050 256 8 1 a1 a2 (by rw [a3]; decide) (by decide) g2
    have e1 := bit_back h hx.l (kind_lt hx) g3
    have e2 := treeB_back _ 2050 256 8 1 a1 a2 (by rw [a3]; decide) (by decide) g2
    have e3 := treeB_back _ 2306 16 4 1 b1 b2 (by rw [b3]; decide) (by decide) g1
    have e4 := even_back _ _ 0 c1 hg
    have n1 : nbits (t.back - 1).toNat ≤ 15 := nbits_le (by omega)
    have n2 : lowN (nbits (t.back - 1).toNat : Int) 4 = nbits (t.back - 1).toNat := lowN_same (by omega)
    have n3 : lowN (t.len - 3) 8 = (t.len - 3).toNat := by
      have := lowN_same (n := (t.len - 3).toNat) (k := 8) (by omega)
      rw [Int.toNat_of_nonneg (by omega)] at this
      exact this
    have n4 : 2 ^ nbits (t.back - 1).toNat / 2 + lowN (t.back - 1) (nbits (t.back - 1).toNat - 1) = (t.back - 1).toNat := by
      have hbk : t.back - 1 = ((t.back - 1).toNat : Int) := by omega
      rw [hbk]
      generalize (t.back - 1).toNat = k
      simp only [Int.toNat_natCast]
      by_cases hk : k = 0
      · subst hk; rfl
      · obtain ⟨p1, p2, p3⟩ := nbits_pos hk
        obtain ⟨m, hm⟩ : ∃ m, nbits k = m + 1 := ⟨nbits k - 1, by omega⟩
        rw [hm] at p2 p3 ⊢
        simp only [Nat.add_sub_cancel] at p2 ⊢
        have e1 : 2 ^ (m + 1) = 2 ^ m * 2 := Nat.pow_succ ..
        have := lowN_top p2 p3
        omega
    rw [n2] at e3
    rw [n3] at e2
    unfold takeT
    rw [e1]
    simp only [↓reduceIte]
    rw [e2]
    simp only
    rw [e3]
    simp only
    rw [show 1 * 2 ^ 4 + nbits (t.back - 1).toNat - 16 = nbits (t.back - 1).toNat by omega, e4, show 1 * 2 ^ 8 + (t.len - 3).toNat - 256 = (t.len - 3).toNat by omega]
    simp only
    rw [Nat.zero_mul, Nat.zero_add, n4]
    congr 1
    have hlit : t.lit = 0 := by
      unfold right at ht
      rw [if_neg (by omega)] at ht
      simp at ht
      exact ht.1.1.1
    obtain ⟨lit, len, back⟩ := t
    simp only at hlit r4 r5 r6 hl r1
    subst hlit
    simp only [Tok.mk.injEq, true_and]
    omega
  · rw [if_neg hl] at hg ⊢
    have hl0 : t.len = 0 := by omega
    obtain ⟨a1, a2⟩ := bitS_okw false h hx.l (kind_lt hx)
    have a3 := (bitS_len s x.L x.kind false).trans hx.len
    have := upper_lt x.h
    have g3 := goes_treeB _ (2 + 256 * upper x.h) 256 8 1 a1 a2 (by rw [a3]; omega) (by decide) hg
    have e1 := bit_back h hx.l (kind_lt hx) g3
    have e2 := treeB_back _ (2 + 256 * upper x.h) 256 8 1 a1 a2 (by rw [a3]; omega) (by decide) hg
    have n3 : lowN (t.lit.toNat : Int) 8 = t.lit.toNat := lowN_same (by have := UInt8.toNat_lt t.lit; omega)
    rw [n3] at e2
    unfold takeT
    rw [e1]
    simp only [Bool.false_eq_true, ↓reduceIte]
    rw [e2]
    simp only
    rw [show 1 * 2 ^ 8 + t.lit.toNat - 256 = t.lit.toNat by omega, u8_same]
    congr 1
    have hb0 := r5 hl0
    obtain ⟨lit, len, back⟩ := t
    simp only at hl0 hb0
    rw [hl0, hb0]
end Go.Proofs.Ytibofgokdjbomaa
