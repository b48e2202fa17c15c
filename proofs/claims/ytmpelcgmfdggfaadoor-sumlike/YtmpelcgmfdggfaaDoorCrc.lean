/-
  The sum of bytes (CRC-32C), of no program: bit by bit; what a half byte does; it is linear; it can be gone back; four bytes at once.
-/
import Derived.KernelRfl
import Derived.Laws.BitsAllLaws
namespace Go.Proofs.YtmpelcgmfdggfaaDoor

def poly : BitVec 32 := 0x82f63b78#32
def ones : BitVec 32 := 0xffffffff#32

/-- One bit shifted down. -/
def st (n : BitVec 32) : BitVec 32 := n >>> 1 ^^^ (if n.getLsbD 0 then poly else 0#32)
/-- k bits shifted down. -/
def stN : Nat → BitVec 32 → BitVec 32
  | 0, n => n
  | k + 1, n => stN k (st n)

theorem xor_swap (a b c d : BitVec 32) : (a ^^^ b) ^^^ (c ^^^ d) = (a ^^^ c) ^^^ (b ^^^ d) := by ac_rfl
theorem st_xor (a b : BitVec 32) : st (a ^^^ b) = st a ^^^ st b := by
  unfold st
  rw [BitVec.ushiftRight_xor_distrib, xor_swap]
  congr 1
  rw [BitVec.getLsbD_xor]
  cases a.getLsbD 0 <;> cases b.getLsbD 0 <;> simp
theorem stN_xor (k : Nat) (a b : BitVec 32) : stN k (a ^^^ b) = stN k a ^^^ stN k b := by
  induction k generalizing a b with
  | zero => rfl
  | succ k ih => rw [stN, stN, stN, st_xor, ih]
theorem stN_succ (k : Nat) (n : BitVec 32) : stN (k + 1) n = st (stN k n) := by
  induction k generalizing n with
  | zero => rfl
  | succ k ih => rw [stN, ih, stN]
theorem stN_add (j k : Nat) (n : BitVec 32) : stN (j + k) n = stN k (stN j n) := by
  induction j generalizing n with
  | zero => simp [stN]
  | succ j ih => rw [Nat.succ_add, stN, ih, stN]

/-- Bits that are 0 are only shifted down. -/
theorem stN_zeros (k : Nat) (n : BitVec 32) (h : ∀ i, i < k → n.getLsbD i = false) : stN k n = n >>> k := by
  induction k generalizing n with
  | zero => simp [stN]
  | succ k ih =>
    have h0 : st n = n >>> 1 := by unfold st; rw [h 0 (by omega)]; simp
    rw [stN, h0, ih (n >>> 1) (fun i hi => by rw [BitVec.getLsbD_ushiftRight]; exact h _ (by omega)), ← BitVec.shiftRight_add]
    congr 1
    omega

/-- What half a byte does. -/
def half (i : Nat) : BitVec 32 := stN 4 (BitVec.ofNat 32 i)
def halvesN : List Nat := [0, 274646895, 549293790, 820201905, 1098587580, 1361435347, 1640403810, 1905808397, 2197175160, 2460548119, 2722870694, 2987750089, 3280807620, 3553878443, 3811616794, 4084100981]
theorem half_tab : ∀ i : Fin 16, halvesN[i.val]? = some (half i.val).toNat := by decide +kernel

theorem split_low (k : Nat) (n : BitVec 32) : n = (n >>> k) <<< k ^^^ BitVec.ofNat 32 (n.toNat % 2 ^ k) := by
  apply BitVec.eq_of_getLsbD_eq
  intro i hi
  rw [BitVec.getLsbD_xor, BitVec.getLsbD_shiftLeft, BitVec.getLsbD_ushiftRight, BitVec.getLsbD_ofNat, Nat.testBit_mod_two_pow, ← BitVec.testBit_toNat]
  by_cases h : i < k
  · simp [h, hi]
  · simp [h, hi, show k + (i - k) = i by omega, BitVec.testBit_toNat]
theorem stN_low (k : Nat) (n : BitVec 32) : stN k n = n >>> k ^^^ stN k (BitVec.ofNat 32 (n.toNat % 2 ^ k)) := by
  conv => lhs; rw [split_low k n, stN_xor]
  congr 1
  rw [stN_zeros k _ (fun i hi => by simp [hi])]
  apply BitVec.eq_of_getLsbD_eq
  intro i hi
  simp
  intro _
  by_cases h : k + i < 32
  · simp [h]
  · rename_i hx
    rw [BitVec.getLsbD_of_ge _ _ (by omega)] at hx
    cases hx
theorem half_step (n : BitVec 32) : n >>> 4 ^^^ half (n.toNat % 16) = stN 4 n := (stN_low 4 n).symm

/-- One byte more. -/
def byteStep (s : BitVec 32) (c : UInt8) : BitVec 32 := stN 8 (s ^^^ BitVec.ofNat 32 c.toNat)
def run (s : BitVec 32) (l : List UInt8) : BitVec 32 := l.foldl byteStep s
/-- The sum of bytes. -/
def crc (l : List UInt8) : BitVec 32 := run ones l ^^^ ones
theorem run_append (s : BitVec 32) (l m : List UInt8) : run s (l ++ m) = run (run s l) m := by simp [run]
theorem run_cons (s : BitVec 32) (c : UInt8) (l : List UInt8) : run s (c :: l) = run (byteStep s c) l := rfl
theorem xor_back (a b : BitVec 32) : (a ^^^ b) ^^^ b = a := by rw [BitVec.xor_assoc, BitVec.xor_self, BitVec.xor_zero]
/-- A sum gone on with. -/
theorem crc_more (l m : List UInt8) : run (crc l ^^^ ones) m ^^^ ones = crc (l ++ m) := by
  unfold crc
  rw [xor_back, run_append]

/-- One bit back. -/
def un (n : BitVec 32) : BitVec 32 := if n.getLsbD 31 then (n ^^^ poly) <<< 1 ||| 1#32 else n <<< 1
theorem poly_top : poly.getLsbD 31 = true := by decide
theorem un_st (n : BitVec 32) : un (st n) = n := by
  unfold un st
  cases h : n.getLsbD 0
  · have h1 : (n >>> 1 ^^^ (if (false : Bool) = true then poly else 0#32)).getLsbD 31 = false := by simp
    rw [h1]
    simp only [Bool.false_eq_true, if_false, BitVec.xor_zero]
    apply BitVec.eq_of_getLsbD_eq
    intro i hi
    by_cases h0 : i = 0
    · subst h0; simpa using h
    · simp [show ¬ i < 1 by omega, show 1 + (i - 1) = i by omega, hi]
  · have h1 : (n >>> 1 ^^^ (if (true : Bool) = true then poly else 0#32)).getLsbD 31 = true := by simp [poly_top]
    rw [h1]
    simp only [if_true]
    rw [xor_back]
    apply BitVec.eq_of_getLsbD_eq
    intro i hi
    by_cases h0 : i = 0
    · subst h0; simpa using h
    · simp [show ¬ i < 1 by omega, show 1 + (i - 1) = i by omega, hi, h0]
theorem st_un (n : BitVec 32) : st (un n) = n := by
  unfold un
  cases h : n.getLsbD 31
  · simp only [Bool.false_eq_true, if_false]
    have h0 : (n <<< 1).getLsbD 0 = false := by simp
    unfold st
    rw [h0]
    simp only [Bool.false_eq_true, if_false, BitVec.xor_zero]
    apply BitVec.eq_of_getLsbD_eq
    intro i hi
    by_cases h1 : i = 31
    · subst h1; simpa using h
    · simp [show 1 + i < 32 by omega, BitVec.getLsbD_eq_getElem hi]
  · simp only [if_true]
    have h0 : ((n ^^^ poly) <<< 1 ||| 1#32).getLsbD 0 = true := by simp
    unfold st
    rw [h0]
    simp only [if_true]
    have e : ((n ^^^ poly) <<< 1 ||| 1#32) >>> 1 = n ^^^ poly := by
      apply BitVec.eq_of_getLsbD_eq
      intro i hi
      by_cases h1 : i = 31
      · subst h1
        have h2 : (n ^^^ poly).getLsbD 31 = false := by rw [BitVec.getLsbD_xor, h, poly_top]; rfl
        rw [h2]; simp
      · simp [show 1 + i < 32 by omega, BitVec.getLsbD_eq_getElem hi]
    rw [e, xor_back]
theorem st_inj {a b : BitVec 32} (h : st a = st b) : a = b := by rw [← un_st a, h, un_st]
theorem stN_inj (k : Nat) {a b : BitVec 32} (h : stN k a = stN k b) : a = b := by
  induction k generalizing a b with
  | zero => exact h
  | succ k ih => exact st_inj (ih h)
theorem xor_cancel {a b c : BitVec 32} (h : a ^^^ c = b ^^^ c) : a = b := by rw [← xor_back a c, h, xor_back]
theorem byteStep_inj {a b : BitVec 32} {c : UInt8} (h : byteStep a c = byteStep b c) : a = b := xor_cancel (stN_inj 8 h)
theorem run_inj {a b : BitVec 32} (l : List UInt8) (h : run a l = run b l) : a = b := by
  induction l generalizing a b with
  | nil => exact h
  | cons c l ih => exact byteStep_inj (ih h)
theorem byte_inj {s : BitVec 32} {c d : UInt8} (h : byteStep s c = byteStep s d) : c = d := by
  have h1 := stN_inj 8 h
  rw [BitVec.xor_comm s, BitVec.xor_comm s] at h1
  have h2 := congrArg BitVec.toNat (xor_cancel h1)
  have hc := UInt8.toNat_lt c
  have hd := UInt8.toNat_lt d
  rw [BitVec.toNat_ofNat, BitVec.toNat_ofNat, Nat.mod_eq_of_lt (by omega), Nat.mod_eq_of_lt (by omega)] at h2
  exact UInt8.toNat_inj.1 h2
/-- Bits turned within one byte. -/
theorem crc_turned (l m : List UInt8) (c d : UInt8) (h : c ≠ d) : crc (l ++ c :: m) ≠ crc (l ++ d :: m) := by
  intro e
  have h1 := xor_cancel e
  rw [run_append, run_append, run_cons, run_cons] at h1
  exact h (byte_inj (run_inj m h1))

/-- Steps back. -/
def unN : Nat → BitVec 32 → BitVec 32
  | 0, n => n
  | k + 1, n => unN k (un n)
theorem unN_succ (k : Nat) (n : BitVec 32) : unN (k + 1) n = un (unN k n) := by
  induction k generalizing n with
  | zero => rfl
  | succ k ih => rw [unN, ih, unN]
theorem stN_unN (k : Nat) (n : BitVec 32) : stN k (unN k n) = n := by
  induction k generalizing n with
  | zero => rfl
  | succ k ih => rw [unN, stN_succ, ih, st_un]

/-- The four bytes of a word, the lowest first. -/
def le4 (n : BitVec 32) : List UInt8 := [UInt8.ofNat n.toNat, UInt8.ofNat (n >>> 8).toNat, UInt8.ofNat (n >>> 16).toNat, UInt8.ofNat (n >>> 24).toNat]
theorem byte_word (s n : BitVec 32) : byteStep s (UInt8.ofNat n.toNat) ^^^ n >>> 8 = stN 8 (s ^^^ n) := by
  unfold byteStep
  rw [stN_xor, stN_xor, stN_low 8 n, UInt8.toNat_ofNat', BitVec.xor_assoc, BitVec.xor_comm (n >>> 8)]
theorem run_le4 (s n : BitVec 32) : run s (le4 n) = stN 32 (s ^^^ n) := by
  have h32 : n >>> 24 >>> 8 = 0#32 := by
    rw [← BitVec.shiftRight_add]
    apply BitVec.eq_of_getLsbD_eq
    intro i hi
    simp
  show run s (le4 n) = stN (8 + (8 + (8 + 8))) (s ^^^ n)
  rw [stN_add, stN_add, stN_add, ← byte_word, ← byte_word, ← byte_word, ← byte_word]
  simp only [le4, run, List.foldl_cons, List.foldl_nil, ← BitVec.shiftRight_add]
  rw [show n >>> (8 + 8 + 8 + 8) = 0#32 from by rw [← h32, ← BitVec.shiftRight_add], BitVec.xor_zero]

/-- Behind the four bytes the sum is 0. -/
theorem crc_forged (l : List UInt8) : crc (l ++ le4 (unN 32 ones ^^^ (crc l ^^^ ones))) = 0#32 := by
  have e : crc l ^^^ ones = run ones l := by unfold crc; rw [xor_back]
  rw [e]
  unfold crc
  rw [run_append, run_le4, BitVec.xor_comm (run ones l), xor_back, stN_unN, BitVec.xor_self]

/-- With its own sum behind it. -/
theorem crc_residue (l : List UInt8) : crc (l ++ le4 (crc l)) = crc [0, 0, 0, 0] := by
  have e : run ones l ^^^ crc l = ones := by unfold crc; rw [BitVec.xor_comm (run ones l) ones, ← BitVec.xor_assoc, BitVec.xor_comm (run ones l) ones, xor_back]
  have z : ([0, 0, 0, 0] : List UInt8) = le4 0#32 := by decide
  rw [z]
  show run ones (l ++ le4 (crc l)) ^^^ ones = run ones (le4 0#32) ^^^ ones
  rw [run_append, run_le4, run_le4, e, BitVec.xor_zero]

theorem byteStep_xor (s t : BitVec 32) (c d : UInt8) : byteStep (s ^^^ t) (c ^^^ d) = byteStep s c ^^^ byteStep t d := by
  unfold byteStep
  rw [← stN_xor, xor_swap]
  congr 2
  rw [UInt8.toNat_xor]
  apply BitVec.eq_of_toNat_eq
  have h1 := UInt8.toNat_lt c
  have h2 := UInt8.toNat_lt d
  have h3 : c.toNat ^^^ d.toNat < 2 ^ 8 := Nat.xor_lt_two_pow h1 h2
  rw [BitVec.toNat_xor, BitVec.toNat_ofNat, BitVec.toNat_ofNat, BitVec.toNat_ofNat, Nat.mod_eq_of_lt (by omega), Nat.mod_eq_of_lt (by omega), Nat.mod_eq_of_lt (by omega)]
theorem run_xor : ∀ (l m : List UInt8) (s t : BitVec 32), l.length = m.length → run (s ^^^ t) (List.zipWith (· ^^^ ·) l m) = run s l ^^^ run t m
  | [], [], _, _, _ => rfl
  | c :: l, d :: m, s, t, h => by
    rw [List.zipWith_cons_cons, run_cons, run_cons, run_cons, byteStep_xor]
    exact run_xor l m _ _ (by simpa using h)
  | [], _ :: _, _, _, h => by simp at h
  | _ :: _, [], _, _, h => by simp at h
/-- Of as many bytes each. -/
theorem crc_like (l m : List UInt8) (h : l.length = m.length) : crc (List.zipWith (· ^^^ ·) l m) = crc l ^^^ crc m ^^^ crc (List.replicate l.length 0) := by
  have hz : List.zipWith (· ^^^ ·) (List.zipWith (· ^^^ ·) l m) (List.replicate l.length (0 : UInt8)) = List.zipWith (· ^^^ ·) l m := by
    apply List.ext_getElem
    · simp [h]
    · intro i h1 h2
      simp
  have h1 := run_xor (List.zipWith (· ^^^ ·) l m) (List.replicate l.length 0) (ones ^^^ ones) ones (by simp [h])
  rw [hz, run_xor l m ones ones h, BitVec.xor_self, BitVec.zero_xor] at h1
  unfold crc
  rw [h1]
  generalize run ones l = a
  generalize run ones m = b
  generalize run ones (List.replicate l.length 0) = c
  have : a ^^^ ones ^^^ (b ^^^ ones) ^^^ (c ^^^ ones) = (a ^^^ b ^^^ c) ^^^ ones ^^^ ((ones ^^^ ones)) := by ac_rfl
  rw [this, BitVec.xor_self, BitVec.xor_zero]
end Go.Proofs.YtmpelcgmfdggfaaDoor
