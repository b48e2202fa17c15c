/-
  ChaCha20 on words of 32 bits, of no program.
-/
namespace Go.Proofs.Ytjcbdplbekecjaa

abbrev W32 := BitVec 32

/-- A word, turned up. -/
def rl (n : Nat) (x : W32) : W32 := (x <<< n) ||| (x >>> (32 - n))
structure Q4 where
  a : W32
  b : W32
  c : W32
  d : W32
/-- Four words behind a quarter. -/
def qr (q : Q4) : Q4 :=
  let a1 := q.a + q.b
  let d1 := rl 16 (q.d ^^^ a1)
  let c1 := q.c + d1
  let b1 := rl 12 (q.b ^^^ c1)
  let a2 := a1 + b1
  let d2 := rl 8 (d1 ^^^ a2)
  let c2 := c1 + d2
  let b2 := rl 7 (b1 ^^^ c2)
  ⟨a2, b2, c2, d2⟩
/-- A quarter of four places of a row. -/
def qAt (s : List W32) (i j k l : Nat) : List W32 :=
  (((s.set i (qr ⟨s.getD i 0, s.getD j 0, s.getD k 0, s.getD l 0⟩).a).set j (qr ⟨s.getD i 0, s.getD j 0, s.getD k 0, s.getD l 0⟩).b).set k (qr ⟨s.getD i 0, s.getD j 0, s.getD k 0, s.getD l 0⟩).c).set l (qr ⟨s.getD i 0, s.getD j 0, s.getD k 0, s.getD l 0⟩).d
def allQ (s : List W32) : List W32 := qAt (qAt (qAt (qAt (qAt (qAt (qAt (qAt s 0 4 8 12) 1 5 9 13) 2 6 10 14) 3 7 11 15) 0 5 10 15) 1 6 11 12) 2 7 8 13) 3 4 9 14
def allQs : Nat → List W32 → List W32
  | 0, s => s
  | n + 1, s => allQ (allQs n s)
def le4N (b : List UInt8) (i : Nat) : Nat := (b.getD i 0).toNat + (b.getD (i + 1) 0).toNat * 256 + (b.getD (i + 2) 0).toNat * 65536 + (b.getD (i + 3) 0).toNat * 16777216
/-- The word whose bytes begin at place i. -/
def le4 (b : List UInt8) (i : Nat) : W32 := BitVec.ofNat 32 (le4N b i)
def lewords (b : List UInt8) (n : Nat) : List W32 := (List.range n).map fun i => le4 b (4 * i)
def sigma : List W32 := [1634760805#32, 857760878#32, 2036477234#32, 1797285236#32]
/-- The sixteen words at first. -/
def firstW (key : List UInt8) (n : W32) (nonce : List UInt8) : List W32 := sigma ++ lewords key 8 ++ [n] ++ lewords nonce 3
def tel1 (x : W32) : List UInt8 := [UInt8.ofNat x.toNat, UInt8.ofNat (x.toNat / 256), UInt8.ofNat (x.toNat / 65536), UInt8.ofNat (x.toNat / 16777216)]
def tel (s : List W32) : List UInt8 := s.flatMap tel1
/-- The sixteen words at last, each more by what it was at first. -/
def lastW (key : List UInt8) (n : W32) (nonce : List UInt8) : List W32 := List.zipWith (· + ·) (allQs 10 (firstW key n nonce)) (firstW key n nonce)
/-- The block. -/
def blok (key : List UInt8) (n : W32) (nonce : List UInt8) : List UInt8 := tel (lastW key n nonce)
/-- Byte i of the blocks from n on. -/
def ks (key : List UInt8) (n : W32) (nonce : List UInt8) (i : Nat) : UInt8 := (blok key (n + BitVec.ofNat 32 (i / 64)) nonce).getD (i % 64) 0
/-- Bytes, each xored with that of the blocks. -/
def xs (key : List UInt8) (n : W32) (nonce : List UInt8) (b : List UInt8) : List UInt8 := (List.range b.length).map fun i => b.getD i 0 ^^^ ks key n nonce i

theorem qAt_len (s : List W32) (i j k l : Nat) : (qAt s i j k l).length = s.length := by simp [qAt]
theorem allQ_len (s : List W32) : (allQ s).length = s.length := by simp [allQ, qAt_len]
theorem allQs_len (n : Nat) (s : List W32) : (allQs n s).length = s.length := by
  induction n with
  | zero => rfl
  | succ n ih => rw [allQs, allQ_len, ih]
theorem lewords_len (b : List UInt8) (n : Nat) : (lewords b n).length = n := by simp [lewords]
theorem lewords_succ (b : List UInt8) (n : Nat) : lewords b (n + 1) = lewords b n ++ [le4 b (4 * n)] := by simp [lewords, List.range_succ]
theorem firstW_len (key : List UInt8) (n : W32) (nonce : List UInt8) : (firstW key n nonce).length = 16 := by simp [firstW, lewords_len, sigma]
theorem lastW_len (key : List UInt8) (n : W32) (nonce : List UInt8) : (lastW key n nonce).length = 16 := by simp [lastW, allQs_len, firstW_len]
theorem tel_len (s : List W32) : (tel s).length = 4 * s.length := by
  induction s with
  | nil => rfl
  | cons x s ih => simp only [tel, List.flatMap_cons, List.length_append] at *; rw [ih]; simp [tel1]; omega
theorem tel_succ (s : List W32) (k : Nat) (h : k < s.length) : tel (s.take (k + 1)) = tel (s.take k) ++ tel1 (s.getD k 0) := by
  rw [List.take_succ_eq_append_getElem h]
  unfold tel
  rw [List.flatMap_append]
  simp [List.getElem?_eq_getElem h]
theorem blok_len (key : List UInt8) (n : W32) (nonce : List UInt8) : (blok key n nonce).length = 64 := by rw [blok, tel_len, lastW_len]
theorem le4_nat (b : List UInt8) (i : Nat) : (le4 b i).toNat = le4N b i := by
  unfold le4
  rw [BitVec.toNat_ofNat]
  unfold le4N
  have b0 := UInt8.toNat_lt (b.getD i 0)
  have b1 := UInt8.toNat_lt (b.getD (i + 1) 0)
  have b2 := UInt8.toNat_lt (b.getD (i + 2) 0)
  have b3 := UInt8.toNat_lt (b.getD (i + 3) 0)
  omega
theorem xs_len (key : List UInt8) (n : W32) (nonce : List UInt8) (b : List UInt8) : (xs key n nonce b).length = b.length := by simp [xs]
theorem xs_at (key : List UInt8) (n : W32) (nonce : List UInt8) (b : List UInt8) (i : Nat) (h : i < b.length) : (xs key n nonce b)[i]? = some (b.getD i 0 ^^^ ks key n nonce i) := by
  simp [xs, h]
theorem xs_getD (key : List UInt8) (n : W32) (nonce : List UInt8) (b : List UInt8) (i : Nat) (h : i < b.length) : (xs key n nonce b).getD i 0 = b.getD i 0 ^^^ ks key n nonce i := by
  rw [List.getD_eq_getElem?_getD, xs_at _ _ _ _ _ h]
  rfl
/-- Xored twice they are as they were. -/
theorem xs_xs (key : List UInt8) (n : W32) (nonce : List UInt8) (b : List UInt8) : xs key n nonce (xs key n nonce b) = b := by
  apply List.ext_getElem?
  intro i
  by_cases h : i < b.length
  · rw [xs_at _ _ _ _ _ (by rw [xs_len]; exact h), xs_getD _ _ _ _ _ h, UInt8.xor_assoc, UInt8.xor_self, UInt8.xor_zero]
    simp [List.getElem?_eq_getElem h]
  · rw [List.getElem?_eq_none (by rw [xs_len, xs_len]; omega), List.getElem?_eq_none (by omega)]
/-- Whole blocks first, then the rest from so many blocks on. -/
theorem ks_add (key : List UInt8) (n : W32) (nonce : List UInt8) (m i : Nat) : ks key n nonce (64 * m + i) = ks key (n + BitVec.ofNat 32 m) nonce i := by
  unfold ks
  rw [show (64 * m + i) % 64 = i % 64 by omega, show (64 * m + i) / 64 = m + i / 64 by omega, BitVec.add_assoc, ← BitVec.ofNat_add]
theorem ks_blok (key : List UInt8) (n : W32) (nonce : List UInt8) (i : Nat) (h : i < 64) : ks key n nonce i = (blok key n nonce).getD i 0 := by
  unfold ks
  rw [Nat.div_eq_of_lt h, Nat.mod_eq_of_lt h]
  simp
theorem xs_app (key : List UInt8) (n : W32) (nonce : List UInt8) (a b : List UInt8) (m : Nat) (h : a.length = 64 * m) : xs key n nonce (a ++ b) = xs key n nonce a ++ xs key (n + BitVec.ofNat 32 m) nonce b := by
  apply List.ext_getElem?
  intro i
  by_cases h1 : i < a.length
  · rw [List.getElem?_append_left (by rw [xs_len]; exact h1), xs_at _ _ _ _ _ (by simp; omega), xs_at _ _ _ _ _ h1]
    simp [List.getElem?_append_left h1]
  · rw [List.getElem?_append_right (by rw [xs_len]; omega), xs_len]
    by_cases h2 : i < (a ++ b).length
    · have h3 : i - a.length < b.length := by simp at h2; omega
      rw [xs_at _ _ _ _ _ h2, xs_at _ _ _ _ _ h3, ← ks_add, show 64 * m + (i - a.length) = i by omega]
      simp [List.getElem?_append_right (show a.length ≤ i by omega)]
    · rw [List.getElem?_eq_none (by rw [xs_len]; omega), List.getElem?_eq_none (by rw [xs_len]; simp at h2; omega)]
/-- The quarter that is published. -/
theorem qr_known : qr ⟨0x11111111#32, 0x01020304#32, 0x9b8d6f43#32, 0x01234567#32⟩ = ⟨0xea2a92f4#32, 0xcb1cf8ce#32, 0x4581472e#32, 0x5881c4bb#32⟩ := by rfl
/-- The first bytes of the block of noughts. -/
theorem blok_known : (blok (List.replicate 32 0) 0#32 (List.replicate 12 0)).take 8 = [0x76, 0xb8, 0xe0, 0xad, 0xa0, 0xf1, 0x3d, 0x90] := by decide +kernel
end Go.Proofs.Ytjcbdplbekecjaa
