/-
  Numbers as rows of digits, and Poly1305 as the document tells it, of no program.
-/
import Derived.Test.YtjcbdplbekecjaaBase
namespace Go.Proofs.Ytjcbdplbekecjaa

/-- The number of a row of digits, the lowest first. -/
def val (B : Nat) : List Nat → Nat
  | [] => 0
  | x :: l => x + B * val B l
/-- So many digits of a number. -/
def digs (B : Nat) : Nat → Nat → List Nat
  | 0, _ => []
  | n + 1, v => v % B :: digs B n (v / B)
def Lt (B : Nat) (l : List Nat) : Prop := ∀ x ∈ l, x < B

theorem digs_len (B n v : Nat) : (digs B n v).length = n := by
  induction n generalizing v with
  | zero => rfl
  | succ n ih => simp [digs, ih]
theorem digs_at (B n v k : Nat) (h : k < n) : (digs B n v).getD k 0 = v / B ^ k % B := by
  induction n generalizing v k with
  | zero => omega
  | succ n ih =>
    cases k with
    | zero => simp [digs]
    | succ k =>
      have := ih (v / B) k (by omega)
      simp only [digs, List.getD_cons_succ]
      rw [this, Nat.div_div_eq_div_mul, Nat.pow_succ, Nat.mul_comm]
theorem digs_at? (B n v k : Nat) (h : k < n) : (digs B n v)[k]? = some (v / B ^ k % B) := by
  have h1 := digs_at B n v k h
  rw [List.getD_eq_getElem?_getD, List.getElem?_eq_getElem (by rw [digs_len]; exact h)] at h1
  rw [List.getElem?_eq_getElem (by rw [digs_len]; exact h)]
  simpa using h1
theorem digs_lt (B n v : Nat) (hB : 0 < B) : Lt B (digs B n v) := by
  induction n generalizing v with
  | zero => intro x hx; simp [digs] at hx
  | succ n ih =>
    intro x hx
    simp only [digs, List.mem_cons] at hx
    rcases hx with rfl | h
    · exact Nat.mod_lt _ hB
    · exact ih _ x h
theorem val_digs (B n v : Nat) : val B (digs B n v) = v % B ^ n := by
  induction n generalizing v with
  | zero => simp [digs, val, Nat.mod_one]
  | succ n ih =>
    simp only [digs, val, ih]
    rw [Nat.pow_succ, Nat.mul_comm (B ^ n) B, Nat.mod_mul]
theorem digs_val (B : Nat) (l : List Nat) (h : Lt B l) : digs B l.length (val B l) = l := by
  induction l with
  | nil => rfl
  | cons x l ih =>
    have hx := h x (by simp)
    simp only [List.length_cons, digs, val]
    rw [Nat.add_mul_mod_self_left, Nat.mod_eq_of_lt hx, Nat.add_mul_div_left _ _ (by omega), Nat.div_eq_of_lt hx, Nat.zero_add, ih (fun y hy => h y (by simp [hy]))]
theorem val_lt (B : Nat) (l : List Nat) (h : Lt B l) : val B l < B ^ l.length := by
  induction l with
  | nil => simp [val]
  | cons x l ih =>
    have hx := h x (by simp)
    have hl := ih (fun y hy => h y (by simp [hy]))
    simp only [val, List.length_cons, Nat.pow_succ]
    have : B * (val B l + 1) ≤ B * B ^ l.length := Nat.mul_le_mul_left _ hl
    rw [Nat.mul_add, Nat.mul_one] at this
    rw [Nat.mul_comm (B ^ l.length) B]
    omega
theorem val_append (B : Nat) (a b : List Nat) : val B (a ++ b) = val B a + B ^ a.length * val B b := by
  induction a with
  | nil => simp [val]
  | cons x a ih =>
    simp only [List.cons_append, val, ih, List.length_cons, Nat.pow_succ, Nat.mul_add]
    rw [Nat.add_assoc, Nat.mul_comm (B ^ a.length) B, Nat.mul_assoc]
theorem val_split (B : Nat) (l : List Nat) (k : Nat) (h : k ≤ l.length) : val B l = val B (l.take k) + B ^ k * val B (l.drop k) := by
  have := val_append B (l.take k) (l.drop k)
  rw [List.take_append_drop, List.length_take, Nat.min_eq_left h] at this
  exact this
theorem val_take (B : Nat) (l : List Nat) (k : Nat) (h : k < l.length) : val B (l.take (k + 1)) = val B (l.take k) + B ^ k * l.getD k 0 := by
  have hg : l.getD k 0 = l[k] := by simp [List.getD_eq_getElem?_getD, List.getElem?_eq_getElem h]
  rw [List.take_add_one, List.getElem?_eq_getElem h, val_append, List.length_take, Nat.min_eq_left (by omega), hg]
  simp [val]
theorem val_drop (B : Nat) (l : List Nat) (k : Nat) (h : k < l.length) : val B (l.drop k) = l.getD k 0 + B * val B (l.drop (k + 1)) := by
  have hg : l.getD k 0 = l[k] := by simp [List.getD_eq_getElem?_getD, List.getElem?_eq_getElem h]
  rw [List.drop_eq_getElem_cons h, hg, val]
theorem val_zeros (B n : Nat) : val B (List.replicate n 0) = 0 := by
  induction n with
  | zero => rfl
  | succ n ih => simp [List.replicate_succ, val, ih]
theorem val_set (B : Nat) (l : List Nat) (k y : Nat) (h : k < l.length) : val B (l.set k (l.getD k 0 + y)) = val B l + B ^ k * y := by
  induction l generalizing k with
  | nil => simp at h
  | cons x l ih =>
    cases k with
    | zero => simp [val]; omega
    | succ k =>
      have := ih k (by simpa using h)
      simp only [List.set_cons_succ, List.getD_cons_succ, val, this, Nat.pow_succ, Nat.mul_add]
      rw [Nat.mul_comm (B ^ k) B, Nat.mul_assoc, Nat.add_assoc]
theorem digs_mod (B n v : Nat) : digs B n (v % B ^ n) = digs B n v := by
  induction n generalizing v with
  | zero => rfl
  | succ n ih =>
    simp only [digs]
    have h1 : v % B ^ (n + 1) % B = v % B := Nat.mod_mod_of_dvd _ ⟨B ^ n, by rw [Nat.pow_succ, Nat.mul_comm]⟩
    have h2 : v % B ^ (n + 1) / B = v / B % B ^ n := by
      rw [Nat.pow_succ, Nat.mul_comm (B ^ n) B, Nat.mod_mul_right_div_self]
    rw [h1, h2, ih]
/-- Within a row of digits, a digit is made greater. -/
theorem digs_put (B n v k c : Nat) (hB : 0 < B) (hk : k < n) (h : v / B ^ k % B + c < B) : (digs B n v).set k (v / B ^ k % B + c) = digs B n (v + B ^ k * c) := by
  induction n generalizing v k with
  | zero => omega
  | succ n ih =>
    cases k with
    | zero =>
      simp only [Nat.pow_zero, Nat.div_one, Nat.one_mul] at h ⊢
      simp only [digs, List.set_cons_zero]
      have h1 : (v + c) % B = v % B + c := by
        rw [Nat.add_mod, Nat.mod_eq_of_lt (show c < B by omega), Nat.mod_eq_of_lt h]
      have h2 : (v + c) / B = v / B := by
        have e1 := Nat.div_add_mod v B
        have e2 := Nat.div_add_mod (v + c) B
        rw [h1] at e2
        have : B * ((v + c) / B) = B * (v / B) := by omega
        exact Nat.eq_of_mul_eq_mul_left hB this
      rw [h1, h2]
    | succ k =>
      have hd : v / B ^ (k + 1) = v / B / B ^ k := by rw [Nat.div_div_eq_div_mul, Nat.pow_succ, Nat.mul_comm]
      rw [hd] at h ⊢
      have := ih (v / B) k (by omega) h
      have hp : B ^ (k + 1) * c = B * (B ^ k * c) := by rw [Nat.pow_succ, Nat.mul_comm (B ^ k) B, Nat.mul_assoc]
      simp only [digs, List.set_cons_succ]
      rw [this, hp, Nat.add_mul_mod_self_left, Nat.add_mul_div_left _ _ hB]
/-- One digit more. -/
theorem digs_more (B n v : Nat) : digs B (n + 1) v = digs B n v ++ [v / B ^ n % B] := by
  induction n generalizing v with
  | zero => simp [digs]
  | succ n ih =>
    have := ih (v / B)
    rw [digs, this]
    simp only [digs, List.cons_append]
    rw [Nat.div_div_eq_div_mul, Nat.pow_succ, Nat.mul_comm (B ^ n) B]
theorem digs_zero (B n : Nat) : digs B n 0 = List.replicate n 0 := by
  induction n with
  | zero => rfl
  | succ n ih => simp [digs, ih, List.replicate_succ]
/-- A row of digits with noughts behind it. -/
theorem digs_far (B n m v : Nat) (h : v < B ^ n) : digs B (n + m) v = digs B n v ++ List.replicate m 0 := by
  induction n generalizing v with
  | zero =>
    have : v = 0 := by simpa using h
    subst this
    simp [digs_zero, digs]
  | succ n ih =>
    rw [show n + 1 + m = (n + m) + 1 by omega]
    simp only [digs, List.cons_append]
    rw [ih (v / B) (by
      apply Nat.div_lt_of_lt_mul
      rw [Nat.mul_comm, ← Nat.pow_succ]
      exact h)]
theorem getD_far0 (l : List Nat) (k : Nat) (h : l.length ≤ k) : l.getD k 0 = 0 := by simp [List.getD_eq_getElem?_getD, List.getElem?_eq_none h]

/-- Bytes as numbers. -/
def byt (l : List UInt8) : List Nat := l.map UInt8.toNat
def le (l : List UInt8) : Nat := val 256 (byt l)
def leB (n v : Nat) : List UInt8 := (digs 256 n v).map UInt8.ofNat
theorem byt_len (l : List UInt8) : (byt l).length = l.length := by simp [byt]
theorem byt_lt (l : List UInt8) : Lt 256 (byt l) := by
  intro x hx
  obtain ⟨c, _, rfl⟩ := List.mem_map.1 hx
  exact UInt8.toNat_lt c
theorem byt_app (a b : List UInt8) : byt (a ++ b) = byt a ++ byt b := by simp [byt]
theorem byt_getD (l : List UInt8) (k : Nat) : (byt l).getD k 0 = (l.getD k 0).toNat := by
  simp only [byt, List.getD_eq_getElem?_getD, List.getElem?_map]
  cases l[k]? <;> rfl
theorem leB_len (n v : Nat) : (leB n v).length = n := by simp [leB, digs_len]
theorem byt_leB (n v : Nat) : byt (leB n v) = digs 256 n v := by
  unfold byt leB
  rw [List.map_map]
  refine (List.map_congr_left (fun x hx => ?_)).trans (List.map_id _)
  have := digs_lt 256 n v (by decide) x hx
  simp only [Function.comp, UInt8.toNat_ofNat', id]
  omega
theorem leB_le (l : List UInt8) : leB l.length (le l) = l := by
  unfold leB le
  rw [← byt_len l, digs_val 256 _ (byt_lt l)]
  unfold byt
  rw [List.map_map]
  exact (List.map_congr_left (fun x _ => UInt8.ofNat_toNat)).trans (List.map_id _)
theorem le_lt (l : List UInt8) : le l < 256 ^ l.length := by
  have := val_lt 256 (byt l) (byt_lt l)
  rwa [byt_len] at this
theorem le_leB (n v : Nat) : le (leB n v) = v % 256 ^ n := by
  unfold le
  rw [byt_leB, val_digs]
theorem le_app (a b : List UInt8) : le (a ++ b) = le a + 256 ^ a.length * le b := by
  unfold le
  rw [byt_app, val_append, byt_len]
theorem le_zeros (n : Nat) : le (List.replicate n 0) = 0 := by
  unfold le byt
  rw [List.map_replicate]
  exact val_zeros 256 n
theorem leB_at (n v k : Nat) (h : k < n) : ((leB n v).getD k 0).toNat = v / 256 ^ k % 256 := by
  rw [← byt_getD, byt_leB, digs_at 256 n v k h]
/-- Four bytes as a number. -/
theorem le_word (l : List UInt8) (o : Nat) (h : o + 4 ≤ l.length) :
    (l.getD o 0).toNat + (l.getD (o + 1) 0).toNat * 256 + (l.getD (o + 2) 0).toNat * 65536 + (l.getD (o + 3) 0).toNat * 16777216 = le l / 256 ^ o % 4294967296 := by
  have hl := byt_len l
  have h1 : le l = val 256 ((byt l).take o) + 256 ^ o * val 256 ((byt l).drop o) := val_split 256 (byt l) o (by omega)
  have h2 : val 256 ((byt l).take o) < 256 ^ o := by
    have := val_lt 256 ((byt l).take o) (fun x hx => byt_lt l x (List.mem_of_mem_take hx))
    rwa [List.length_take, Nat.min_eq_left (by omega)] at this
  rw [h1, Nat.add_mul_div_left _ _ (Nat.pow_pos (by decide)), Nat.div_eq_of_lt h2, Nat.zero_add]
  rw [val_drop 256 _ o (by omega), val_drop 256 _ (o + 1) (by omega), val_drop 256 _ (o + 1 + 1) (by omega), val_drop 256 _ (o + 1 + 1 + 1) (by omega)]
  simp only [byt_getD, Nat.add_assoc, Nat.reduceAdd]
  have b0 := UInt8.toNat_lt (l.getD o 0)
  have b1 := UInt8.toNat_lt (l.getD (o + 1) 0)
  have b2 := UInt8.toNat_lt (l.getD (o + 2) 0)
  have b3 := UInt8.toNat_lt (l.getD (o + 3) 0)
  omega

/-- The prime. -/
def PP : Nat := 1361129467683753853853498429727072845819
def B26 : Nat := 67108864
/-- r, cleared. -/
def clr (k : Nat) (c : UInt8) : UInt8 := if k % 4 = 3 then UInt8.ofNat (c.toNat % 16) else if k % 4 = 0 ∧ 0 < k then UInt8.ofNat (c.toNat / 4 * 4) else c
def clampB (r : List UInt8) : List UInt8 := (List.range 16).map fun k => clr k (r.getD k 0)
theorem clampB_len (r : List UInt8) : (clampB r).length = 16 := by simp [clampB]
theorem clr_clr (k : Nat) (c : UInt8) : clr k (clr k c) = clr k c := by
  have hc := UInt8.toNat_lt c
  unfold clr
  split
  · rw [UInt8.toNat_ofNat']
    congr 1
    omega
  · split
    · rw [UInt8.toNat_ofNat']
      congr 1
      omega
    · rfl
theorem clampB_at (r : List UInt8) (k : Nat) (h : k < 16) : (clampB r).getD k 0 = clr k (r.getD k 0) := by
  simp [clampB, h]
theorem clampB_clampB (r : List UInt8) : clampB (clampB r) = clampB r := by
  unfold clampB
  apply List.map_congr_left
  intro k hk
  have hk' : k < 16 := by simpa using hk
  have := clampB_at r k hk'
  unfold clampB at this
  rw [this, clr_clr]
theorem clampB_take (r : List UInt8) : clampB (r.take 16) = clampB r := by
  unfold clampB
  apply List.map_congr_left
  intro k hk
  have hk' : k < 16 := by simpa using hk
  simp [List.getD_eq_getElem?_getD, hk']

def chunk (b : List UInt8) (k : Nat) : List UInt8 := (b.drop (16 * k)).take 16
/-- The number that is added at step k. -/
def blk (b : List UInt8) (k : Nat) : Nat := le (chunk b k) + 256 ^ (chunk b k).length
def accAt (r : Nat) (b : List UInt8) : Nat → Nat
  | 0 => 0
  | k + 1 => (accAt r b k + blk b k) * r % PP
def accOf (r : Nat) (b : List UInt8) : Nat := accAt r b ((b.length + 15) / 16)
def tagB (key b : List UInt8) : List UInt8 := leB 16 (accOf (le (clampB key)) b + le (key.drop 16))
def timesB (a r : List UInt8) : List UInt8 := leB 17 (le a * le (clampB r) % PP)
theorem tagB_len (key b : List UInt8) : (tagB key b).length = 16 := leB_len _ _
theorem timesB_len (a r : List UInt8) : (timesB a r).length = 17 := leB_len _ _
theorem accAt_lt (r : Nat) (b : List UInt8) (k : Nat) : accAt r b k < PP := by
  cases k with
  | zero => show 0 < PP; decide
  | succ k => exact Nat.mod_lt _ (by decide)
theorem chunk_len (b : List UInt8) (k : Nat) : (chunk b k).length = min 16 (b.length - 16 * k) := by simp [chunk]
theorem blk_lt (b : List UInt8) (k : Nat) : blk b k < 2 * 256 ^ 16 := by
  unfold blk
  have h1 := le_lt (chunk b k)
  have h2 : 256 ^ (chunk b k).length ≤ 256 ^ 16 := Nat.pow_le_pow_right (by decide) (by rw [chunk_len]; omega)
  omega
theorem awake_known : tagB [0x85, 0xd6, 0xbe, 0x78, 0x57, 0x55, 0x6d, 0x33, 0x7f, 0x44, 0x52, 0xfe, 0x42, 0xd5, 0x06, 0xa8, 0x01, 0x03, 0x80, 0x8a, 0xfb, 0x0d, 0xb2, 0xfd, 0x4a, 0xbf, 0xf6, 0xaf, 0x41, 0x49, 0xf5, 0x1b]
    [67, 114, 121, 112, 116, 111, 103, 114, 97, 112, 104, 105, 99, 32, 70, 111, 114, 117, 109, 32, 82, 101, 115, 101, 97, 114, 99, 104, 32, 71, 114, 111, 117, 112] = [0xa8, 0x06, 0x1d, 0xc1, 0x30, 0x51, 0x36, 0xc6, 0xc2, 0x2b, 0x8b, 0xaf, 0x0c, 0x01, 0x27, 0xa9] := by decide +kernel

/-- The highest limb of a number that is cleared is below 2^20. -/
theorem clamp_lt (r : List UInt8) : le (clampB r) < 2 ^ 124 := by
  have h1 : le (clampB r) = val 256 ((byt (clampB r)).take 15) + 256 ^ 15 * val 256 ((byt (clampB r)).drop 15) := val_split 256 _ 15 (by rw [byt_len, clampB_len]; decide)
  have h2 : val 256 ((byt (clampB r)).take 15) < 256 ^ 15 := by
    have := val_lt 256 ((byt (clampB r)).take 15) (fun x hx => byt_lt _ x (List.mem_of_mem_take hx))
    rwa [List.length_take, Nat.min_eq_left (by rw [byt_len, clampB_len]; decide)] at this
  rw [val_drop 256 _ 15 (by rw [byt_len, clampB_len]; decide), List.drop_of_length_le (by rw [byt_len, clampB_len]; decide), byt_getD, clampB_at r 15 (by decide)] at h1
  have h3 : (clr 15 (r.getD 15 0)).toNat < 16 := by
    unfold clr
    rw [if_pos (by decide), UInt8.toNat_ofNat']
    omega
  simp only [val, Nat.mul_zero, Nat.add_zero] at h1
  rw [h1]
  omega
end Go.Proofs.Ytjcbdplbekecjaa
