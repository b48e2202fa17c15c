/-
  Layer 9's mathematics: bytes as literals and matches (of no program).
-/
import Derived.Test.YtibofgokdjbomaaMMem
namespace Go.Proofs.Ytibofgokdjbomaa
set_option maxRecDepth 1000000

structure Tok where
  lit : UInt8
  len : Int
  back : Int
deriving DecidableEq

def right (t : Tok) : Bool :=
  if t.len = 0 then decide (t.back = 0) else decide (t.lit = 0) && decide (3 ≤ t.len) && decide (t.len ≤ 258) && (decide (1 ≤ t.back) && decide (t.back ≤ 32768))
def tsize (t : Tok) : Int := max 1 t.len
def told (t : Tok) : Int := if right t then tsize t else 0
def sizes : List Tok → Int
  | [] => 0
  | t :: l => told t + sizes l
theorem sizes_app (a b : List Tok) : sizes (a ++ b) = sizes a + sizes b := by
  induction a with
  | nil => simp [sizes]
  | cons t a ih => simp only [List.cons_append, sizes, ih]; omega
theorem sizes_next (l : List Tok) (k : Nat) (h : k < l.length) : sizes (l.take (k + 1)) = sizes (l.take k) + told l[k] := by
  rw [List.take_succ_eq_append_getElem h, sizes_app]
  simp [sizes]
theorem right_len {t : Tok} (h : right t = true) : 0 ≤ t.len ∧ t.len ≤ 258 ∧ 0 ≤ t.back ∧ t.back ≤ 32768 ∧ (t.len = 0 → t.back = 0) ∧ (t.len ≠ 0 → 1 ≤ t.back ∧ 3 ≤ t.len) := by
  unfold right at h
  split at h
  · simp at h; omega
  · simp at h; omega
theorem told_bound (t : Tok) : 0 ≤ told t ∧ told t ≤ 258 := by
  unfold told tsize
  split
  · rename_i h
    have := right_len h
    omega
  · omega
theorem sizes_bound : ∀ l : List Tok, 0 ≤ sizes l ∧ sizes l ≤ 258 * l.length
  | [] => by simp [sizes]
  | t :: l => by
    have := sizes_bound l
    have := told_bound t
    simp only [sizes, List.length_cons]
    omega

/-- So many bytes again, one by one, that begin so many ahead of the end. -/
def copyS (back : Nat) (out : List UInt8) : Nat → List UInt8
  | 0 => out
  | k + 1 => copyS back out k ++ [(copyS back out k).getD ((copyS back out k).length - back) 0]
theorem copyS_len (back : Nat) (out : List UInt8) : ∀ k, (copyS back out k).length = out.length + k
  | 0 => rfl
  | k + 1 => by rw [copyS, List.length_append, copyS_len back out k]; simp; omega
def putTok (out : List UInt8) (t : Tok) : List UInt8 := if t.len = 0 then out ++ [t.lit] else copyS t.back.toNat out t.len.toNat
theorem putTok_len (out : List UInt8) (t : Tok) (h : right t = true) : ((putTok out t).length : Int) = out.length + tsize t := by
  have := right_len h
  unfold putTok tsize
  split
  · simp; omega
  · rw [copyS_len]; omega
def expandFrom (out : List UInt8) : List Tok → List UInt8 × Nat
  | [] => (out, 0)
  | t :: l => if right t = false ∨ (out.length : Int) < t.back then ([], 4) else if 65536 < (out.length : Int) + tsize t then ([], 7) else expandFrom (putTok out t) l
def expand (l : List Tok) : List UInt8 × Nat := expandFrom [] l

theorem expandFrom_ok : ∀ (l : List Tok) (out : List UInt8), (expandFrom out l).2 = 0 → ((expandFrom out l).1.length : Int) = out.length + sizes l
  | [], out, _ => by simp [expandFrom, sizes]
  | t :: l, out, h => by
    rw [expandFrom] at h ⊢
    split at h
    · cases h
    · rename_i h1
      split at h
      · cases h
      · rename_i h2
        rw [if_neg h1, if_neg h2, expandFrom_ok l _ h]
        have hr : right t = true := by
          by_cases hr : right t = true
          · exact hr
          · exact absurd (.inl (by simpa using hr)) h1
        rw [putTok_len _ _ hr, sizes, told, if_pos hr]
        omega
theorem expandFrom_bad : ∀ (l : List Tok) (out : List UInt8), (expandFrom out l).2 ≠ 0 → (expandFrom out l).1 = []
  | [], out, h => absurd rfl h
  | t :: l, out, h => by
    rw [expandFrom] at h ⊢
    split
    · rfl
    · rename_i h1
      rw [if_neg h1] at h
      split
      · rfl
      · rename_i h2
        rw [if_neg h2] at h
        exact expandFrom_bad l _ h
theorem expandFrom_small : ∀ (l : List Tok) (out : List UInt8), (expandFrom out l).2 = 0 → out.length ≤ 65536 → (expandFrom out l).1.length ≤ 65536
  | [], out, _, h => h
  | t :: l, out, h, ho => by
    rw [expandFrom] at h ⊢
    split at h
    · cases h
    · rename_i h1
      split at h
      · cases h
      · rename_i h2
        rw [if_neg h1, if_neg h2]
        refine expandFrom_small l _ h ?_
        have hr : right t = true := by
          by_cases hr : right t = true
          · exact hr
          · exact absurd (.inl (by simpa using hr)) h1
        have := putTok_len out _ hr
        omega
theorem expandFrom_app : ∀ (l k : List Tok) (out : List UInt8), expandFrom out (l ++ k) = if (expandFrom out l).2 = 0 then expandFrom (expandFrom out l).1 k else expandFrom out l
  | [], k, out => by simp [expandFrom]
  | t :: l, k, out => by
    rw [List.cons_append, expandFrom, expandFrom]
    split
    · simp
    · split
      · simp
      · exact expandFrom_app l k _
def litT (c : UInt8) : Tok := ⟨c, 0, 0⟩
theorem right_lit (c : UInt8) : right (litT c) = true := by simp [right, litT]
theorem expandFrom_lits : ∀ (b out : List UInt8), out.length + b.length ≤ 65536 → expandFrom out (b.map litT) = (out ++ b, 0)
  | [], out, _ => by simp [expandFrom]
  | c :: b, out, h => by
    simp only [List.length_cons] at h
    rw [List.map_cons, expandFrom, if_neg (by
      rintro (h | h)
      · rw [right_lit] at h; cases h
      · simp only [litT] at h; omega), if_neg (by simp only [tsize, litT]; omega)]
    rw [show putTok out (litT c) = out ++ [c] from rfl, expandFrom_lits b _ (by simp; omega)]
    simp
theorem sizes_lits : ∀ b : List UInt8, sizes (b.map litT) = b.length
  | [] => rfl
  | c :: b => by
    rw [List.map_cons, sizes, sizes_lits b, told, if_pos (right_lit c)]
    simp only [tsize, litT, List.length_cons]
    omega

/-- With how many bytes of the second the first begins. -/
def alikeN : List UInt8 → List UInt8 → Nat
  | a :: as, n :: ns => if a = n then alikeN as ns + 1 else 0
  | _, _ => 0
theorem alikeN_le : ∀ a n : List UInt8, alikeN a n ≤ n.length
  | a :: as, n :: ns => by
    rw [alikeN]
    split
    · have := alikeN_le as ns; simp; omega
    · simp
  | [], n => by cases n <;> simp [alikeN]
  | a :: as, [] => by simp [alikeN]
theorem alikeN_at : ∀ (a n : List UInt8) (i : Nat), i < alikeN a n → a[i]? = n[i]? ∧ i < a.length
  | a :: as, n :: ns, i, h => by
    rw [alikeN] at h
    split at h
    · rename_i e
      subst e
      cases i with
      | zero => simp
      | succ i =>
        have := alikeN_at as ns i (by omega)
        simpa using this
    · omega
  | [], n, i, h => by cases n <;> simp [alikeN] at h
  | a :: as, [], i, h => by simp [alikeN] at h
theorem alikeN_stop : ∀ (a n : List UInt8) (i : Nat), i < n.length → i < a.length → (∀ j, j < i → a[j]? = n[j]?) → a[i]? ≠ n[i]? → alikeN a n = i
  | a :: as, n :: ns, i, h1, h2, h3, h4 => by
    cases i with
    | zero =>
      rw [alikeN, if_neg]
      simpa using h4
    | succ i =>
      have e : a = n := by simpa using h3 0 (by omega)
      rw [alikeN, if_pos e, alikeN_stop as ns i (by simpa using h1) (by simpa using h2) (fun j hj => by simpa using h3 (j + 1) (by omega)) (by simpa using h4)]
  | [], n, i, h1, h2, _, _ => by simp at h2
  | a :: as, [], i, h1, _, _, _ => by simp at h1
theorem alikeN_all : ∀ (a n : List UInt8), n.length ≤ a.length → (∀ j, j < n.length → a[j]? = n[j]?) → alikeN a n = n.length
  | a :: as, n :: ns, h1, h3 => by
    have e : a = n := by simpa using h3 0 (by simp)
    rw [alikeN, if_pos e, alikeN_all as ns (by simpa using h1) (fun j hj => by simpa using h3 (j + 1) (by simpa using hj))]
    simp
  | [], [], _, _ => rfl
  | a :: as, [], _, _ => rfl
  | [], n :: ns, h, _ => by simp at h
theorem alikeN_ge : ∀ (a n : List UInt8) (i : Nat), i ≤ n.length → i ≤ a.length → (∀ j, j < i → a[j]? = n[j]?) → i ≤ alikeN a n
  | _, _, 0, _, _, _ => Nat.zero_le _
  | a :: as, n :: ns, i + 1, h1, h2, h3 => by
    have e : a = n := by simpa using h3 0 (by omega)
    rw [alikeN, if_pos e]
    have := alikeN_ge as ns i (by simpa using h1) (by simpa using h2) (fun j hj => by simpa using h3 (j + 1) (by omega))
    omega
  | [], n, i + 1, _, h2, _ => by simp at h2
  | a :: as, [], i + 1, h1, _, _ => by simp at h1

def nextOf (b : List UInt8) (p : Nat) : List UInt8 := (b.drop p).take 258
theorem nextOf_len (b : List UInt8) (p : Nat) : (nextOf b p).length = min 258 (b.length - p) := by simp [nextOf]
theorem nextOf_at (b : List UInt8) (p i : Nat) (h : i < 258) : (nextOf b p)[i]? = b[p + i]? := by
  unfold nextOf
  rw [List.getElem?_take, if_pos h, List.getElem?_drop]
/-- How long a row begins at place r that is what comes next at p. -/
def mlen (b : List UInt8) (p r : Nat) : Nat := alikeN (b.drop r) (nextOf b p)
theorem mlen_le (b : List UInt8) (p r : Nat) : mlen b p r ≤ (nextOf b p).length := alikeN_le _ _
theorem mlen_at (b : List UInt8) (p r i : Nat) (h : i < mlen b p r) : b[r + i]? = b[p + i]? ∧ p + i < b.length := by
  have h1 := alikeN_at _ _ i h
  have h2 := mlen_le b p r
  rw [nextOf_len] at h2
  rw [List.getElem?_drop, nextOf_at _ _ _ (by omega)] at h1
  exact ⟨h1.1, by omega⟩
def first3 : List UInt8 → Option (UInt8 × UInt8 × UInt8)
  | x :: y :: z :: _ => some (x, y, z)
  | _ => none
def tri (b : List UInt8) (p : Nat) : Option (UInt8 × UInt8 × UInt8) := first3 (b.drop p)
theorem first3_at {l : List UInt8} {x y z : UInt8} (h : first3 l = some (x, y, z)) : l[0]? = some x ∧ l[1]? = some y ∧ l[2]? = some z ∧ 3 ≤ l.length := by
  match l, h with
  | _ :: _ :: _ :: _, h => cases h; simp
theorem first3_mk {l : List UInt8} {x y z : UInt8} (h0 : l[0]? = some x) (h1 : l[1]? = some y) (h2 : l[2]? = some z) : first3 l = some (x, y, z) := by
  match l, h0, h1, h2 with
  | _ :: _ :: _ :: _, h0, h1, h2 => simp at h0 h1 h2; subst h0 h1 h2; rfl
theorem first3_none {l : List UInt8} (h : l.length < 3) : first3 l = none := by
  match l, h with
  | [], _ => rfl
  | [_], _ => rfl
  | [_, _], _ => rfl
  | _ :: _ :: _ :: _, h => simp at h; omega
theorem first3_some {l : List UInt8} (h : 3 ≤ l.length) : ∃ x y z, first3 l = some (x, y, z) := by
  match l, h with
  | x :: y :: z :: _, _ => exact ⟨x, y, z, rfl⟩
theorem first3_take (l : List UInt8) : first3 (l.take 258) = first3 l := by
  match l with
  | [] => rfl
  | [_] => rfl
  | [_, _] => rfl
  | _ :: _ :: _ :: _ => rfl
theorem tri_next (b : List UInt8) (p : Nat) : first3 (nextOf b p) = tri b p := first3_take _
theorem mlen_tri {b : List UInt8} {p r : Nat} (h : 3 ≤ mlen b p r) : tri b r = tri b p ∧ tri b p ≠ none := by
  have h0 := mlen_at b p r 0 (by omega)
  have h1 := mlen_at b p r 1 (by omega)
  have h2 := mlen_at b p r 2 (by omega)
  have hl : p + 2 < b.length := h2.2
  obtain ⟨x, hx⟩ : ∃ x, b[p + 0]? = some x := ⟨_, List.getElem?_eq_getElem (by omega)⟩
  obtain ⟨y, hy⟩ : ∃ x, b[p + 1]? = some x := ⟨_, List.getElem?_eq_getElem (by omega)⟩
  obtain ⟨z, hz⟩ : ∃ x, b[p + 2]? = some x := ⟨_, List.getElem?_eq_getElem (by omega)⟩
  have e1 : tri b p = some (x, y, z) := first3_mk (by rw [List.getElem?_drop]; exact hx) (by rw [List.getElem?_drop]; exact hy) (by rw [List.getElem?_drop]; exact hz)
  have e2 : tri b r = some (x, y, z) := first3_mk (by rw [List.getElem?_drop, h0.1]; exact hx) (by rw [List.getElem?_drop, h1.1]; exact hy) (by rw [List.getElem?_drop, h2.1]; exact hz)
  exact ⟨by rw [e1, e2], by rw [e1]; simp⟩
theorem tri_mlen {b : List UInt8} {p r : Nat} (h : tri b r = tri b p) (hn : tri b p ≠ none) : 3 ≤ mlen b p r := by
  obtain ⟨⟨x, y, z⟩, hp⟩ := Option.ne_none_iff_exists'.1 hn
  have hr := h.trans hp
  have a := first3_at hp
  have c := first3_at hr
  simp only [List.getElem?_drop, List.length_drop] at a c
  refine alikeN_ge _ _ 3 (by rw [nextOf_len]; omega) (by simp; omega) (fun j hj => ?_)
  rw [List.getElem?_drop, nextOf_at _ _ _ (by omega)]
  match j, hj with
  | 0, _ => rw [c.1, a.1]
  | 1, _ => rw [c.2.1, a.2.1]
  | 2, _ => rw [c.2.2.1, a.2.2.1]

/-- The best match at p of the nearest so many places. -/
def best (b : List UInt8) (p : Nat) : Nat → Tok
  | 0 => litT (b.getD p 0)
  | k + 1 => if 2 < mlen b p (p - (k + 1)) ∧ (best b p k).len < (mlen b p (p - (k + 1)) : Nat) then ⟨0, (mlen b p (p - (k + 1)) : Nat), (k : Int) + 1⟩ else best b p k
def tokAt (b : List UInt8) (win p : Nat) : Tok := best b p (min win p)
def parseFrom (b : List UInt8) (win : Nat) : Nat → Nat → List Tok
  | 0, _ => []
  | f + 1, p => if p < b.length then tokAt b win p :: parseFrom b win f (p + (tsize (tokAt b win p)).toNat) else []
def parse (b : List UInt8) (win : Int) : List Tok := if 1 ≤ win ∧ win ≤ 32768 then parseFrom b win.toNat b.length 0 else []

/-- What a best token is: the literal, or a match there. -/
theorem best_is (b : List UInt8) (p : Nat) : ∀ k, best b p k = litT (b.getD p 0) ∨ ∃ j, 1 ≤ j ∧ j ≤ k ∧ 3 ≤ mlen b p (p - j) ∧ best b p k = ⟨0, (mlen b p (p - j) : Nat), (j : Int)⟩
  | 0 => .inl rfl
  | k + 1 => by
    rw [best]
    split
    · rename_i h
      exact .inr ⟨k + 1, by omega, by omega, by omega, by simp⟩
    · rcases best_is b p k with h | ⟨j, h1, h2, h3, h4⟩
      · exact .inl h
      · exact .inr ⟨j, h1, by omega, h3, h4⟩
theorem best_len (b : List UInt8) (p k : Nat) : 0 ≤ (best b p k).len ∧ (best b p k).len ≤ ((nextOf b p).length : Nat) := by
  rcases best_is b p k with h | ⟨j, _, _, _, h⟩
  · rw [h]; simp [litT]
  · rw [h]
    have := mlen_le b p (p - j)
    simp only
    omega
/-- It stays so where no three bytes are alike, or none can have more. -/
theorem best_same (b : List UInt8) (p k : Nat) : ∀ n, (∀ j, k < j → j ≤ k + n → mlen b p (p - j) ≤ 2 ∨ ((mlen b p (p - j) : Nat) : Int) ≤ (best b p k).len) → best b p (k + n) = best b p k
  | 0, _ => rfl
  | n + 1, h => by
    have ih := best_same b p k n (fun j h1 h2 => h j h1 (by omega))
    rw [show k + (n + 1) = (k + n) + 1 from rfl, best, ih, if_neg]
    have := h (k + n + 1) (by omega) (by omega)
    omega
/-- The last place ahead of k of these three bytes. -/
def lastP (b : List UInt8) (x : UInt8 × UInt8 × UInt8) : Nat → Int
  | 0 => -1
  | k + 1 => if tri b k = some x then (k : Int) else lastP b x k
theorem lastP_lt (b : List UInt8) (x : UInt8 × UInt8 × UInt8) : ∀ k, -1 ≤ lastP b x k ∧ lastP b x k < k
  | 0 => by simp [lastP]
  | k + 1 => by
    rw [lastP]
    split
    · omega
    · have := lastP_lt b x k; omega
theorem lastP_is (b : List UInt8) (x : UInt8 × UInt8 × UInt8) : ∀ k, 0 ≤ lastP b x k → tri b (lastP b x k).toNat = some x
  | 0, h => by simp [lastP] at h
  | k + 1, h => by
    rw [lastP] at h ⊢
    split
    · simpa
    · rename_i e
      rw [if_neg e] at h
      exact lastP_is b x k h
theorem lastP_none (b : List UInt8) (x : UInt8 × UInt8 × UInt8) : ∀ k (r : Nat), lastP b x k < r → r < k → tri b r ≠ some x
  | 0, r, _, h => by omega
  | k + 1, r, h1, h2 => by
    rw [lastP] at h1
    split at h1
    · omega
    · rename_i e
      by_cases hr : r = k
      · rw [hr]; exact e
      · exact lastP_none b x k r h1 (by omega)
def prevOf (b : List UInt8) (k : Nat) : Option (UInt8 × UInt8 × UInt8) → Int
  | some x => lastP b x k
  | none => -1
def prevP (b : List UInt8) (p : Nat) : Int := prevOf b p (tri b p)
theorem prevP_lt (b : List UInt8) (p : Nat) : -1 ≤ prevP b p ∧ prevP b p < p := by
  unfold prevP prevOf
  split
  · exact lastP_lt _ _ _
  · omega
/-- Between a place of the same three bytes and the last one ahead of it nothing is matched. -/
theorem prevP_gap (b : List UInt8) (p q r : Nat) (hq : tri b q = tri b p) (h1 : prevP b q < r) (h2 : r < q) : mlen b p r ≤ 2 := by
  by_cases h : 3 ≤ mlen b p r
  · obtain ⟨e1, e2⟩ := mlen_tri h
    obtain ⟨x, hx⟩ := Option.ne_none_iff_exists'.1 e2
    unfold prevP prevOf at h1
    rw [hq, hx] at h1
    exact absurd (e1.trans hx) (lastP_none b x q r h1 h2)
  · omega
theorem prevP_is (b : List UInt8) (p q : Nat) (hq : tri b q = tri b p) (h : 0 ≤ prevP b q) : tri b (prevP b q).toNat = tri b p ∧ tri b p ≠ none := by
  unfold prevP prevOf at h ⊢
  split at h
  · rename_i x hx
    have := lastP_is b x q h
    rw [← hq, hx]
    exact ⟨this, by simp⟩
  · omega

/-- What is so of the places that were gone through: t is the best of those nearer than place. -/
def Upto (b : List UInt8) (win p : Nat) (place : Int) (t : Tok) : Prop :=
  -1 ≤ place ∧ place < p ∧ (0 ≤ place → tri b place.toNat = tri b p ∧ tri b p ≠ none) ∧
  ∃ k0 : Nat, k0 ≤ min win p ∧ (k0 : Int) + place < p ∧ ∀ k : Nat, k0 ≤ k → (k : Int) + place < p → best b p k = t
theorem Upto.start (b : List UInt8) (win p : Nat) : Upto b win p (prevP b p) (litT (b.getD p 0)) := by
  have hp := prevP_lt b p
  refine ⟨hp.1, hp.2, fun h => prevP_is b p p rfl h, 0, by omega, by omega, fun k _ hk => ?_⟩
  have := best_same b p 0 k (fun j h1 h2 => .inl (prevP_gap b p p (p - j) rfl (by omega) (by omega)))
  rw [Nat.zero_add] at this
  exact this
theorem Upto.done {b : List UInt8} {win p : Nat} {place : Int} {t : Tok} (h : Upto b win p place t) (hp : place < max 0 ((p : Int) - win)) : tokAt b win p = t := by
  obtain ⟨_, _, _, k0, h1, h2, h3⟩ := h
  exact h3 _ h1 (by omega)
theorem Upto.full {b : List UInt8} {win p : Nat} {place : Int} {t : Tok} (h : Upto b win p place t) (hp : ((nextOf b p).length : Int) ≤ t.len) : tokAt b win p = t := by
  obtain ⟨_, _, _, k0, h1, h2, h3⟩ := h
  have e := h3 k0 (Nat.le_refl _) h2
  have := best_same b p k0 (min win p - k0) (fun j _ _ => .inr (by
    have := mlen_le b p (p - j)
    rw [e]
    omega))
  rw [show k0 + (min win p - k0) = min win p by omega, e] at this
  exact this
theorem Upto.next {b : List UInt8} {win p : Nat} {q : Nat} {t t' : Tok} (h : Upto b win p (q : Int) t) (hq : max 0 ((p : Int) - win) ≤ q)
    (ht : t' = if t.len < (mlen b p q : Nat) then ⟨0, (mlen b p q : Nat), (p : Int) - q⟩ else t) : Upto b win p (prevP b q) t' := by
  obtain ⟨_, h0, h4, k0, h1, h2, h3⟩ := h
  have h4 := h4 (by omega)
  rw [Int.toNat_natCast] at h4
  have hpr := prevP_lt b q
  have hm := tri_mlen h4.1 h4.2
  have e : best b p (p - q - 1) = t := h3 _ (by omega) (by omega)
  have e1 : best b p (p - q) = t' := by
    rw [show p - q = (p - q - 1) + 1 by omega, best, e, show p - (p - q - 1 + 1) = q by omega, ht]
    by_cases hc : t.len < (mlen b p q : Nat)
    · rw [if_pos hc, if_pos ⟨by omega, hc⟩]
      congr 1
      omega
    · rw [if_neg hc, if_neg (fun hh => hc hh.2)]
  refine ⟨hpr.1, by omega, fun hh => ?_, p - q, by omega, by omega, fun k hk1 hk2 => ?_⟩
  · have := prevP_is b p q h4.1 hh
    exact this
  · have := best_same b p (p - q) (k - (p - q)) (fun j h5 h6 => .inl (prevP_gap b p q (p - j) h4.1 (by omega) (by omega)))
    rw [show p - q + (k - (p - q)) = k by omega, e1] at this
    exact this
end Go.Proofs.Ytibofgokdjbomaa
