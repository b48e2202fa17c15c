/-
  Layer 11's words: what is read of any bytes; that what was written is read (of no program).
-/
import Derived.Test.YtibofgokdjbomaaPkM
namespace Go.Proofs.Ytibofgokdjbomaa
set_option maxRecDepth 1000000

structure Rpt where
  r : Rst
  x : Kst
/-- A token that is not to be: it reaches ahead of the beginning, or beyond. -/
def badT (n : Nat) (x : Kst) (t : Tok) : Bool := !right t || decide ((x.h.length : Int) < t.back) || decide ((n : Int) - x.h.length < t.len)
def nextR2 (p : Rpt) : Rpt := ⟨(takeT p.r p.x).2.1, nextK p.x (takeT p.r p.x).2.2 (takeT p.r p.x).1⟩
def readF (n : Nat) : Nat → Rpt → List Tok → Option (List Tok) × Rst
  | 0, p, acc => (some acc, p.r)
  | f + 1, p, acc => if p.x.h.length < n then (if badT n p.x (takeT p.r p.x).1 then (none, (takeT p.r p.x).2.1) else readF n f (nextR2 p) (acc ++ [(takeT p.r p.x).1])) else (some acc, p.r)
def rpt0 (b : List UInt8) : Rpt := ⟨openN 4 b, kst0⟩
def endR (y : Option (List Tok) × Rst) : List Tok × Nat := match y.1 with
  | none => ([], 4)
  | some l => if 0 < y.2.rest.length then ([], 5) else if y.2.short then ([], 2) else (l, 0)
def readM (b : List UInt8) (n : Nat) : List Tok × Nat := endR (readF n n (rpt0 b) [])

theorem endS_len4 (s : Cst) : (endS s).length = s.out.length + 4 := by simp [endS, lowB]
theorem goodT {n : Nat} {x : Kst} {t : Tok} (h : badT n x t = false) : right t = true ∧ t.back ≤ x.h.length ∧ t.len ≤ (n : Int) - x.h.length := by
  unfold badT at h
  simp only [Bool.or_eq_false_iff, Bool.not_eq_false', decide_eq_false_iff_not] at h
  exact ⟨h.1.1, by omega, by omega⟩
theorem goodT_mk {n : Nat} {x : Kst} {t : Tok} (h1 : right t = true) (h2 : t.back ≤ x.h.length) (h3 : t.len ≤ (n : Int) - x.h.length) : badT n x t = false := by
  unfold badT
  simp [h1]
  omega
theorem expandFrom_one {h : List UInt8} {t : Tok} {l : List Tok} (he : (expandFrom h (t :: l)).2 = 0) : right t = true ∧ t.back ≤ h.length ∧ (h.length : Int) + tsize t ≤ 65536 ∧ expandFrom h (t :: l) = expandFrom (putTok h t) l := by
  rw [expandFrom] at he ⊢
  split at he
  · cases he
  · rename_i h1
    split at he
    · cases he
    · rename_i h2
      rw [if_neg h1, if_neg h2]
      simp only [not_or, Int.not_lt, Bool.not_eq_false] at h1
      exact ⟨h1.1, h1.2, by omega, rfl⟩
theorem tsize_le (t : Tok) : t.len ≤ tsize t ∧ 1 ≤ tsize t := by unfold tsize; omega
theorem sizes_pos : ∀ (l : List Tok) (h : List UInt8), (expandFrom h l).2 = 0 → (l.length : Int) ≤ sizes l
  | [], _, _ => by simp [sizes]
  | t :: l, h, he => by
    obtain ⟨h1, h2, h3, h4⟩ := expandFrom_one he
    have := sizes_pos l _ (by rw [← h4]; exact he)
    have := tsize_le t
    simp only [sizes, told, if_pos h1, List.length_cons]
    omega
theorem putsP_h : ∀ (l : List Tok) (p : Pst), (expandFrom p.x.h l).2 = 0 → (putsP p l).x.h = (expandFrom p.x.h l).1
  | [], _, _ => rfl
  | t :: l, p, he => by
    obtain ⟨h1, h2, h3, h4⟩ := expandFrom_one he
    have := putsP_h l (putP p t) (by rw [h4] at he; exact he)
    rw [h4]
    exact this
theorem goes_putsP : ∀ (l : List Tok) {p : Pst} {B : List UInt8}, Okp p → Goes (putsP p l).s B → Goes p.s B
  | [], _, _, _, h => h
  | t :: l, p, B, h, hg => goes_putT h.s h.x (goes_putsP l (putP_ok t h) hg)
/-- What was put is read. -/
theorem readF_back (n : Nat) (B : List UInt8) : ∀ (l : List Tok) (f : Nat) (p : Pst) (acc : List Tok), Okp p → (expandFrom p.x.h l).2 = 0 → (expandFrom p.x.h l).1.length = n → n ≤ f + p.x.h.length → Goes (putsP p l).s B →
    readF n f ⟨rdAt B p.s, p.x⟩ acc = (some (acc ++ l), rdAt B (putsP p l).s)
  | [], f, p, acc, _, _, hn, _, _ => by
    have h0 : ¬ p.x.h.length < n := by rw [← hn]; exact Nat.lt_irrefl _
    cases f with
    | zero => simp [readF, putsP]
    | succ f => rw [readF, if_neg h0]; simp [putsP]
  | t :: l, f, p, acc, h, he, hn, hf, hg => by
    obtain ⟨h1, h2, h3, h4⟩ := expandFrom_one he
    have hp := putTok_len p.x.h t h1
    have hts := tsize_le t
    have he2 : (expandFrom (putTok p.x.h t) l).2 = 0 := by rw [← h4]; exact he
    have hlen := expandFrom_ok l (putTok p.x.h t) he2
    have hsz := sizes_bound l
    rw [← h4, hn] at hlen
    obtain ⟨f, rfl⟩ : ∃ k, f = k + 1 := ⟨f - 1, by omega⟩
    have htk := take_putT h.s h.x h1 (goes_putsP l (putP_ok t h) hg)
    have hgood : badT n p.x t = false := goodT_mk h1 h2 (by omega)
    rw [readF, if_pos (by show p.x.h.length < n; omega)]
    simp only
    rw [htk]
    simp only
    rw [hgood]
    simp only [Bool.false_eq_true, ↓reduceIte]
    have hnx : nextR2 ⟨rdAt B p.s, p.x⟩ = ⟨rdAt B (putP p t).s, (putP p t).x⟩ := by
      unfold nextR2
      simp only
      rw [htk]
      rfl
    rw [hnx, readF_back n B l f (putP p t) (acc ++ [t]) (putP_ok t h) he2 (show (expandFrom (putTok p.x.h t) l).1.length = n by rw [← h4]; exact hn) (by show n ≤ f + (putTok p.x.h t).length; omega) hg]
    simp [putsP]
theorem read_write {l : List Tok} (he : (expand l).2 = 0) : readM (writeS l) (expand l).1.length = (l, 0) := by
  have ho := putsP_ok l pst0_ok
  have hl : 4 ≤ (writeS l).length := by unfold writeS; rw [endS_len4]; omega
  have hge := goes_end ho.s.ok
  have := readF_back (expand l).1.length (writeS l) l (expand l).1.length pst0 [] pst0_ok he rfl (Nat.le_add_right _ _) hge.1
  unfold readM rpt0
  rw [rdAt_begin hl]
  rw [show (⟨rdAt (writeS l) beginS, kst0⟩ : Rpt) = ⟨rdAt (writeS l) pst0.s, pst0.x⟩ from rfl, this]
  have e2 : rdAt (writeS l) (putsP pst0 l).s = ⟨[], 0, (putsP pst0 l).s.width, false⟩ := hge.2
  rw [e2]
  simp [endR]
/-- What is read may stand so. -/
theorem readF_fit (n : Nat) (hn : n ≤ 65536) : ∀ (f : Nat) (p : Rpt) (acc l : List Tok), Okr p.r → Okk p.x → p.x.h.length ≤ n → n ≤ f + p.x.h.length → expand acc = (p.x.h, 0) → (readF n f p acc).1 = some l → (expand l).2 = 0 ∧ (expand l).1.length = n
  | 0, p, acc, l, _, _, h1, h2, h3, h4 => by
    rw [readF] at h4
    cases h4
    rw [h3]
    exact ⟨rfl, by simp only; omega⟩
  | f + 1, p, acc, l, hr, hx, h1, h2, h3, h4 => by
    rw [readF] at h4
    split at h4
    · rename_i hlt
      split at h4
      · cases h4
      · rename_i hb
        have hok := takeT_ok hr hx
        obtain ⟨g1, g2, g3⟩ := goodT (by simpa using hb)
        have hp := putTok_len p.x.h _ g1
        have hrl := right_len g1
        have hts : (p.x.h.length : Int) + tsize (takeT p.r p.x).1 ≤ n := by unfold tsize; omega
        refine readF_fit n hn f (nextR2 p) _ l hok.r ⟨hok.l, hok.len, kindN_le _⟩ (by show (putTok _ _).length ≤ n; omega) (by have := tsize_le (takeT p.r p.x).1; show n ≤ f + (putTok _ _).length; omega) ?_ h4
        unfold expand at h3 ⊢
        rw [expandFrom_app, h3]
        simp only [↓reduceIte]
        rw [expandFrom, if_neg (by rw [g1]; simp; omega), if_neg (by omega)]
        rfl
    · cases h4
      rw [h3]
      exact ⟨rfl, by simp only; omega⟩
theorem kst0_h : kst0.h = [] := rfl
theorem openN_okr (b : List UInt8) : Okr (openN 4 b) := by
  obtain ⟨h1, h2, _, _⟩ := openN_ok 4 b
  refine ⟨?_, ?_, ?_⟩
  · rw [h2]; have : (256 : Nat) ^ 4 = 4294967296 := by decide
    omega
  · rw [h2]; decide
  · rw [h2]; decide
theorem read_fit {b : List UInt8} {n : Nat} {l : List Tok} (hn : n ≤ 65536) (h : readM b n = (l, 0)) : (expand l).2 = 0 ∧ (expand l).1.length = n := by
  unfold readM endR at h
  split at h
  · cases h
  · rename_i l2 hl2
    split at h
    · cases h
    · split at h
      · cases h
      · have e : l2 = l := congrArg Prod.fst h
        subst e
        exact readF_fit n hn n (rpt0 b) [] l2 (openN_okr b) kst0_ok (by show 0 ≤ n; omega) (by show n ≤ n + 0; omega) rfl hl2
theorem readM_bad (b : List UInt8) (n : Nat) (h : (readM b n).2 ≠ 0) : (readM b n).1 = [] := by
  unfold readM endR at h ⊢
  split
  · rfl
  · rename_i l2 hl2
    rw [hl2] at h
    simp only at h
    split
    · rfl
    · rename_i h1
      rw [if_neg h1] at h
      split
      · rfl
      · rename_i h2
        rw [if_neg h2] at h
        exact absurd rfl h
theorem readM_errs (b : List UInt8) (n : Nat) : (readM b n).2 ≤ 5 := by
  unfold readM endR
  split
  · decide
  · split
    · decide
    · split
      · decide
      · exact Nat.zero_le _

/-- A reader with more behind. -/
def Rst.ext (r : Rst) (e : List UInt8) : Rst := ⟨r.rest ++ e, r.num, r.width, r.short⟩
theorem nextR_ext {r : Rst} {e : List UInt8} (h : (nextR r).short = false) : r.short = false ∧ nextR (r.ext e) = (nextR r).ext e := by
  obtain ⟨rest, num, width, short⟩ := r
  cases rest with
  | nil => simp [nextR] at h
  | cons c rest => exact ⟨h, rfl⟩
theorem widR_ext {r : Rst} {e : List UInt8} (h : (widR r).short = false) : r.short = false ∧ widR (r.ext e) = (widR r).ext e := by
  unfold widR at h ⊢
  by_cases hw : r.width < 16777216
  · rw [if_pos hw] at h
    obtain ⟨h1, h2⟩ := nextR_ext (e := e) (r := r) h
    refine ⟨h1, ?_⟩
    rw [if_pos (show (r.ext e).width < 16777216 from hw), if_pos hw, h2]
    rfl
  · rw [if_neg hw] at h
    rw [if_neg (show ¬ (r.ext e).width < 16777216 from hw), if_neg hw]
    exact ⟨h, rfl⟩
theorem takeR_ext {r : Rst} {b : Nat} {e : List UInt8} (h : (takeR r b).2.short = false) : r.short = false ∧ takeR (r.ext e) b = ((takeR r b).1, (takeR r b).2.ext e) := by
  unfold takeR at h ⊢
  by_cases hw : r.num < b
  · rw [if_pos hw] at h
    rw [if_pos (show (r.ext e).num < b from hw), if_pos hw]
    obtain ⟨h1, h2⟩ := widR_ext (e := e) h
    exact ⟨h1, congrArg (Prod.mk false) h2⟩
  · rw [if_neg hw] at h
    rw [if_neg (show ¬ (r.ext e).num < b from hw), if_neg hw]
    obtain ⟨h1, h2⟩ := widR_ext (e := e) h
    exact ⟨h1, congrArg (Prod.mk true) h2⟩
theorem bitR_ext {r : Rst} {L : List Nat} {p : Nat} {e : List UInt8} (h : (bitR r L p).2.1.short = false) : r.short = false ∧ bitR (r.ext e) L p = ((bitR r L p).1, (bitR r L p).2.1.ext e, (bitR r L p).2.2) := by
  obtain ⟨h1, h2⟩ := takeR_ext (e := e) (r := r) h
  refine ⟨h1, ?_⟩
  unfold bitR
  rw [show (r.ext e).width = r.width from rfl, h2]
theorem treeRB_ext (base : Nat) {e : List UInt8} : ∀ (k p : Nat) {r : Rst} {L : List Nat}, (treeRB r L base k p).2.1.short = false → r.short = false ∧ treeRB (r.ext e) L base k p = ((treeRB r L base k p).1, (treeRB r L base k p).2.1.ext e, (treeRB r L base k p).2.2)
  | 0, _, _, _, h => ⟨h, rfl⟩
  | k + 1, p, r, L, h => by
    obtain ⟨h1, h2⟩ := treeRB_ext base (e := e) k (2 * p + (bitR r L (base + p)).1.toNat) (r := (bitR r L (base + p)).2.1) (L := (bitR r L (base + p)).2.2) h
    obtain ⟨h3, h4⟩ := bitR_ext (e := e) h1
    refine ⟨h3, ?_⟩
    rw [treeRB, h4]
    simp only
    rw [h2]
    rfl
theorem evenR_ext {e : List UInt8} : ∀ (k n : Nat) {r : Rst}, (evenR r n k).2.short = false → r.short = false ∧ evenR (r.ext e) n k = ((evenR r n k).1, (evenR r n k).2.ext e)
  | 0, _, _, h => ⟨h, rfl⟩
  | k + 1, n, r, h => by
    obtain ⟨h1, h2⟩ := evenR_ext (e := e) k (2 * n + (takeR r (r.width / 2)).1.toNat) (r := (takeR r (r.width / 2)).2) h
    obtain ⟨h3, h4⟩ := takeR_ext (e := e) h1
    refine ⟨h3, ?_⟩
    rw [evenR, show (r.ext e).width = r.width from rfl, h4]
    simp only
    rw [h2]
    rfl
theorem takeT_ext {r : Rst} {x : Kst} {e : List UInt8} (h : (takeT r x).2.1.short = false) : r.short = false ∧ takeT (r.ext e) x = ((takeT r x).1, (takeT r x).2.1.ext e, (takeT r x).2.2) := by
  unfold takeT at h ⊢
  by_cases hb : (bitR r x.L x.kind).1 = true
  · rw [if_pos hb] at h ⊢
    obtain ⟨d1, d2⟩ := evenR_ext (e := e) _ _ h
    obtain ⟨c1, c2⟩ := treeRB_ext 2306 (e := e) 4 1 d1
    obtain ⟨b1, b2⟩ := treeRB_ext 2050 (e := e) 8 1 c1
    obtain ⟨a1, a2⟩ := bitR_ext (e := e) b1
    refine ⟨a1, ?_⟩
    rw [a2]
    simp only
    rw [if_pos hb, b2]
    simp only
    rw [c2]
    simp only
    rw [d2]
  · rw [if_neg hb] at h ⊢
    obtain ⟨b1, b2⟩ := treeRB_ext (2 + 256 * upper x.h) (e := e) 8 1 h
    obtain ⟨a1, a2⟩ := bitR_ext (e := e) b1
    refine ⟨a1, ?_⟩
    rw [a2]
    simp only
    rw [if_neg hb, b2]
def Rpt.ext (p : Rpt) (e : List UInt8) : Rpt := ⟨p.r.ext e, p.x⟩
theorem readF_ext (n : Nat) {e : List UInt8} : ∀ (f : Nat) (p : Rpt) (acc : List Tok), (readF n f p acc).2.short = false → p.r.short = false ∧ readF n f (p.ext e) acc = ((readF n f p acc).1, (readF n f p acc).2.ext e)
  | 0, _, _, h => ⟨h, rfl⟩
  | f + 1, p, acc, h => by
    rw [readF] at h
    rw [readF, readF]
    by_cases hlt : p.x.h.length < n
    · rw [if_pos hlt] at h ⊢
      rw [if_pos (show (p.ext e).x.h.length < n from hlt)]
      by_cases hb : badT n p.x (takeT p.r p.x).1 = true
      · rw [if_pos hb] at h ⊢
        obtain ⟨t1, t2⟩ := takeT_ext (e := e) h
        refine ⟨t1, ?_⟩
        show (if badT n p.x (takeT (p.r.ext e) p.x).1 = true then (none, (takeT (p.r.ext e) p.x).2.1) else _) = _
        rw [t2]
        simp only
        rw [if_pos hb]
      · rw [if_neg hb] at h ⊢
        obtain ⟨u1, u2⟩ := readF_ext n (e := e) f (nextR2 p) _ h
        obtain ⟨t1, t2⟩ := takeT_ext (e := e) (show (takeT p.r p.x).2.1.short = false from u1)
        refine ⟨t1, ?_⟩
        show (if badT n p.x (takeT (p.r.ext e) p.x).1 = true then (none, (takeT (p.r.ext e) p.x).2.1) else readF n f (nextR2 (p.ext e)) (acc ++ [(takeT (p.r.ext e) p.x).1])) = _
        have hnx : nextR2 (p.ext e) = (nextR2 p).ext e := by
          unfold nextR2
          show (⟨(takeT (p.r.ext e) p.x).2.1, nextK p.x (takeT (p.r.ext e) p.x).2.2 (takeT (p.r.ext e) p.x).1⟩ : Rpt) = _
          rw [t2]
          rfl
        rw [hnx, t2]
        simp only
        rw [if_neg hb, u2]
    · rw [if_neg hlt] at h ⊢
      rw [if_neg (show ¬ (p.ext e).x.h.length < n from hlt)]
      exact ⟨h, rfl⟩
theorem openN_ext {b e : List UInt8} : ∀ (k : Nat), (openN k b).short = false → openN k (b ++ e) = (openN k b).ext e
  | 0, _ => rfl
  | k + 1, h => by
    have h' : (nextR (openN k b)).short = false := h
    obtain ⟨h1, h2⟩ := nextR_ext (e := e) h'
    show nextR (openN k (b ++ e)) = _
    rw [openN_ext k h1, h2]
    rfl
/-- With more behind it is told so. -/
theorem read_more {b e : List UInt8} {n : Nat} {l : List Tok} (h : readM b n = (l, 0)) (he : e ≠ []) : readM (b ++ e) n = ([], 5) := by
  unfold readM at h ⊢
  have hs : (readF n n (rpt0 b) []).2.short = false ∧ (readF n n (rpt0 b) []).1 = some l ∧ (readF n n (rpt0 b) []).2.rest = [] := by
    unfold endR at h
    split at h
    · cases h
    · rename_i l2 hl2
      split at h
      · cases h
      · rename_i h1
        split at h
        · cases h
        · rename_i h2
          have e : l2 = l := congrArg Prod.fst h
          subst e
          refine ⟨by simpa using h2, hl2, ?_⟩
          simpa using h1
  obtain ⟨h1, h2⟩ := readF_ext n (e := e) n (rpt0 b) [] hs.1
  have ho : rpt0 (b ++ e) = (rpt0 b).ext e := by
    unfold rpt0
    rw [openN_ext 4 h1]
    rfl
  rw [ho, h2, hs.2.1]
  unfold endR Rst.ext
  simp only
  rw [hs.2.2, if_pos (by simpa [List.length_pos_iff] using he)]
/-- Without its last bytes nothing is read. -/
theorem read_cut {b e : List UInt8} {n : Nat} {l : List Tok} (h : readM (b ++ e) n = (l, 0)) (he : e ≠ []) : (readM b n).2 ≠ 0 := by
  intro h0
  have h1 : readM b n = ((readM b n).1, 0) := by rw [← h0]
  rw [read_more h1 he] at h
  cases h

/-- How wide it is behind so many bits. -/
structure Pwide (s : Cst) (m : Nat) : Prop where
  le : 256 ^ s.out.length * 4294967295 ≤ s.width * 67 ^ m
theorem wid_pw {s : Cst} {m : Nat} (h : Pwide s m) : Pwide (wid s) m := by
  unfold wid
  split
  · obtain ⟨h⟩ := h
    refine ⟨?_⟩
    show 256 ^ (s.out ++ [_]).length * 4294967295 ≤ s.width * 256 * 67 ^ m
    rw [List.length_append, List.length_singleton, Nat.pow_succ, Nat.mul_right_comm, Nat.mul_right_comm s.width]
    exact Nat.mul_le_mul_right _ h
  · exact h
theorem putS_pw {s : Cst} {bound m : Nat} (b : Bool) (h : Pwide s m) (h1 : s.width ≤ 67 * bound) (h2 : s.width ≤ 67 * (s.width - bound)) : Pwide (putS s bound b) (m + 1) := by
  have key : ∀ w', s.width ≤ 67 * w' → 256 ^ s.out.length * 4294967295 ≤ w' * 67 ^ (m + 1) := fun w' hw => by
    refine Nat.le_trans h.le ?_
    rw [Nat.pow_succ, Nat.mul_comm (67 ^ m) 67, ← Nat.mul_assoc, Nat.mul_comm w' 67]
    exact Nat.mul_le_mul_right _ hw
  unfold putS
  split
  · refine wid_pw ?_
    have hk := key _ h2
    refine ⟨?_⟩
    have e : (if 4294967296 ≤ s.low + bound then incr s.out else s.out).length = s.out.length := by split <;> simp [incr_len]
    simp only
    rw [e]
    exact hk
  · exact wid_pw ⟨key _ h1⟩
theorem chance_pw {s : Cst} {c : Nat} (h : Okc s) (hc : Okn c) : s.width ≤ 67 * (s.width / 2048 * c) ∧ s.width ≤ 67 * (s.width - s.width / 2048 * c) := by
  have hw := h.wide
  obtain ⟨c1, c2⟩ := hc
  have e1 : s.width / 2048 * 31 ≤ s.width / 2048 * c := Nat.mul_le_mul_left _ c1
  have e2 : s.width / 2048 * c ≤ s.width / 2048 * 2017 := Nat.mul_le_mul_left _ c2
  constructor <;> omega
theorem bitS_pw {s : Cst} {L : List Nat} {p m : Nat} (b : Bool) (h : Okw s) (hl : Okl L) (hp : p < L.length) (hm : Pwide s m) : Pwide (bitS s L p b).1 (m + 1) := by
  obtain ⟨k1, k2⟩ := chance_pw h.ok (hl.at_ hp)
  exact putS_pw b hm k1 k2
theorem treeB_pw (n : Int) (base w : Nat) : ∀ (k p m : Nat) {s : Cst} {L : List Nat}, Okw s → Okl L → base + w ≤ L.length → (p + 1) * 2 ^ k ≤ 2 * w → Pwide s m → Pwide (treeB s L base n k p).1 (m + k)
  | 0, _, _, _, _, _, _, _, _, h => h
  | k + 1, p, m, s, L, h, hl, hm, hp, hw => by
    have hlt := tree_lt hp
    have ho := bitS_okw (p := base + p) (bitAt n k) h hl (by omega)
    have := treeB_pw n base w k (2 * p + (bitAt n k).toNat) (m + 1) ho.1 ho.2 (by rw [bitS_len]; exact hm) (tree_next _ hp) (bitS_pw (bitAt n k) h hl (by omega) hw)
    rw [show m + (k + 1) = m + 1 + k by omega]
    exact this
theorem evenS_pw (n : Int) : ∀ (k m : Nat) {s : Cst}, Okw s → Pwide s m → Pwide (evenS s n k) (m + k)
  | 0, _, _, _, h => h
  | k + 1, m, s, h, hw => by
    have hwd := h.ok.wide
    have := evenS_pw n k (m + 1) (putS_okw (bitAt n k) h (even_ok h.ok)) (putS_pw (bitAt n k) hw (by omega) (by omega))
    rw [show m + (k + 1) = m + 1 + k by omega]
    exact this
theorem Pwide.mono {s : Cst} {m k : Nat} (h : Pwide s m) (hk : m ≤ k) : Pwide s k :=
  ⟨Nat.le_trans h.le (Nat.mul_le_mul_left _ (Nat.pow_le_pow_right (by decide) hk))⟩
/-- A token takes at most 9 bits for each of its bytes. -/
theorem putT_pw {s : Cst} {x : Kst} {t : Tok} {m : Nat} (h : Okw s) (hx : Okk x) (ht : right t = true) (hw : Pwide s m) : Pwide (putT s x t).1 (m + 9 * (tsize t).toNat) := by
  obtain ⟨r1, r2, r3, r4, r5, r6⟩ := right_len ht
  unfold putT
  split
  · obtain ⟨a1, a2⟩ := bitS_okw true h hx.l (kind_lt hx)
    have a3 := (bitS_len s x.L x.kind true).trans hx.len
    obtain ⟨b1, b2⟩ := treeB_okw (t.len - 3) 2050 256 8 1 a1 a2 (by rw [a3]; decide) (by decide)
    have b3 := (treeB_len (t.len - 3) 2050 8 1 (bitS s x.L x.kind true).1 (bitS s x.L x.kind true).2).1.trans a3
    obtain ⟨c1, c2⟩ := treeB_okw (nbits (t.back - 1).toNat : Int) 2306 16 4 1 b1 b2 (by rw [b3]; decide) (by decide)
    have w1 := bitS_pw true h hx.l (kind_lt hx) hw
    have w2 := treeB_pw (t.len - 3) 2050 256 8 1 _ a1 a2 (by rw [a3]; decide) (by decide) w1
    have w3 := treeB_pw (nbits (t.back - 1).toNat : Int) 2306 16 4 1 _ b1 b2 (by rw [b3]; decide) (by decide) w2
    have w4 := evenS_pw (t.back - 1) (nbits (t.back - 1).toNat - 1) _ c1 w3
    have n1 : nbits (t.back - 1).toNat ≤ 15 := nbits_le (by omega)
    exact w4.mono (by unfold tsize; omega)
  · obtain ⟨a1, a2⟩ := bitS_okw false h hx.l (kind_lt hx)
    have a3 := (bitS_len s x.L x.kind false).trans hx.len
    have := upper_lt x.h
    have w1 := bitS_pw false h hx.l (kind_lt hx) hw
    have w2 := treeB_pw (t.lit.toNat : Int) (2 + 256 * upper x.h) 256 8 1 _ a1 a2 (by rw [a3]; omega) (by decide) w1
    exact w2.mono (by unfold tsize; omega)
theorem putsP_pw : ∀ (l : List Tok) (m : Nat) {p : Pst}, Okp p → (expandFrom p.x.h l).2 = 0 → Pwide p.s m → Pwide (putsP p l).s (m + 9 * (sizes l).toNat)
  | [], m, _, _, _, h => by simpa [putsP, sizes] using h
  | t :: l, m, p, h, he, hw => by
    obtain ⟨h1, h2, h3, h4⟩ := expandFrom_one he
    have h5 : (expandFrom (putP p t).x.h l).2 = 0 := by rw [h4] at he; exact he
    have := putsP_pw l (m + 9 * (tsize t).toNat) (putP_ok t h) h5 (putT_pw h.s h.x h1 hw)
    refine Pwide.mono this ?_
    have := sizes_bound l
    have := tsize_le t
    simp only [sizes, told, if_pos h1]
    omega
theorem pw_begin : Pwide beginS 0 := ⟨by decide⟩
theorem pw_len {s : Cst} {n : Nat} (h : Pwide s (9 * n)) (hs : Okc s) : s.out.length ≤ 7 * n := by
  have h1 : s.width * 67 ^ (9 * n) ≤ 4294967295 * 67 ^ (9 * n) := Nat.mul_le_mul_right _ (by have := hs.most; omega)
  have h2 : 256 ^ s.out.length * 4294967295 ≤ 67 ^ (9 * n) * 4294967295 := by rw [Nat.mul_comm (67 ^ (9 * n))]; exact Nat.le_trans h.le h1
  have h3 : 256 ^ s.out.length ≤ 67 ^ (9 * n) := Nat.le_of_mul_le_mul_right h2 (by decide)
  have h4 : 67 ^ (9 * n) ≤ 256 ^ (7 * n) := by
    rw [Nat.pow_mul, Nat.pow_mul]
    exact Nat.pow_le_pow_left (by decide) n
  exact (Nat.pow_le_pow_iff_right (by decide)).1 (Nat.le_trans h3 h4)
/-- So many bytes at most. -/
theorem write_len {l : List Tok} (he : (expand l).2 = 0) : (writeS l).length ≤ 7 * (expand l).1.length + 4 ∧ 4 ≤ (writeS l).length := by
  have ho := putsP_ok l pst0_ok
  have hp := putsP_pw l 0 pst0_ok he pw_begin
  have hs := expandFrom_ok l [] he
  have hz := sizes_bound l
  rw [Nat.zero_add] at hp
  have := pw_len hp ho.s.ok
  have e : (expand l).1.length = (sizes l).toNat := by unfold expand; simp at hs; omega
  unfold writeS
  rw [endS_len4, e]
  omega
end Go.Proofs.Ytibofgokdjbomaa
