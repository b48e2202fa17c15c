/-
  Codes under keys, and keys derived of them, on rows of bytes, of no program.
-/
import Derived.Test.YtmhcfbfdbminnaaDoorSha
namespace Go.Proofs.YtmhcfbfdbminnaaDoor

theorem sha_l32 (l : List UInt8) : (sha l).length = 32 := by
  unfold sha
  rw [told_len, runB_len _ _ start_len]

/-- A key of up to 64 bytes: of a longer one its digest. -/
def shortK (k : List UInt8) : List UInt8 := if 64 < k.length then sha k else k
theorem shortK_le (k : List UInt8) : (shortK k).length ≤ 64 := by
  unfold shortK
  split
  · rw [sha_l32]; decide
  · omega
/-- The block key. -/
def bkey (k : List UInt8) : List UInt8 := shortK k ++ List.replicate (64 - (shortK k).length) 0
theorem bkey_len (k : List UInt8) : (bkey k).length = 64 := by
  have := shortK_le k
  simp [bkey]
  omega
def mask (m : UInt8) (b : List UInt8) : List UInt8 := b.map (· ^^^ m)
theorem mask_len (m : UInt8) (b : List UInt8) : (mask m b).length = b.length := by simp [mask]
/-- The code of bytes under a key. -/
def hmac (k b : List UInt8) : List UInt8 := sha (mask 92 (bkey k) ++ sha (mask 54 (bkey k) ++ b))
theorem hmac_len (k b : List UInt8) : (hmac k b).length = 32 := sha_l32 _
/-- Part i that is derived. -/
def part (p q : List UInt8) : Nat → List UInt8
  | 0 => []
  | i + 1 => hmac p (part p q i ++ q ++ [UInt8.ofNat (i + 1)])
theorem part_len (p q : List UInt8) (i : Nat) : (part p q (i + 1)).length = 32 := hmac_len _ _
/-- The first i parts. -/
def parts (p q : List UInt8) : Nat → List UInt8
  | 0 => []
  | i + 1 => parts p q i ++ part p q (i + 1)
theorem parts_len (p q : List UInt8) (i : Nat) : (parts p q i).length = 32 * i := by
  induction i with
  | zero => rfl
  | succ i ih => simp only [parts, List.length_append, ih, part_len]; omega
theorem parts_more (p q : List UInt8) (i j n : Nat) (h : i ≤ j) (hn : n ≤ 32 * i) : (parts p q j).take n = (parts p q i).take n := by
  induction j with
  | zero => rw [show i = 0 by omega]
  | succ j ih =>
    rcases Nat.lt_or_ge j i with h1 | h1
    · rw [show i = j + 1 by omega]
    · rw [parts, List.take_append_of_le_length (by rw [parts_len]; omega), ih h1]
/-- n bytes, derived. -/
def derived (secret salt q : List UInt8) (n : Nat) : List UInt8 := (parts (hmac salt secret) q ((n + 31) / 32)).take n
theorem derived_len (s t q : List UInt8) (n : Nat) : (derived s t q n).length = n := by
  unfold derived
  rw [List.length_take, parts_len]
  omega
/-- Fewer bytes are the first ones of more. -/
theorem derived_less (s t q : List UInt8) (n m : Nat) (h : n ≤ m) : (derived s t q m).take n = derived s t q n := by
  unfold derived
  rw [List.take_take, Nat.min_eq_left h]
  exact parts_more _ _ _ _ _ (by omega) (by omega)
/-- Any number of parts that is enough will do. -/
theorem derived_of (s t q : List UInt8) (n i : Nat) (h : n ≤ 32 * i) : (parts (hmac t s) q i).take n = derived s t q n := by
  unfold derived
  exact parts_more _ _ _ _ _ (by omega) (by omega)

/-- Noughts behind a key, up to 64 bytes, change nothing. -/
theorem bkey_long (k : List UInt8) (n : Nat) (h : k.length + n ≤ 64) : bkey (k ++ List.replicate n 0) = bkey k := by
  have h1 : shortK k = k := by unfold shortK; rw [if_neg (by omega)]
  have h2 : shortK (k ++ List.replicate n 0) = k ++ List.replicate n 0 := by unfold shortK; rw [if_neg (by simp; omega)]
  unfold bkey
  rw [h1, h2, List.append_assoc, List.replicate_append_replicate, List.length_append, List.length_replicate]
  congr 2
  omega
theorem hmac_long (k b : List UInt8) (n : Nat) (h : k.length + n ≤ 64) : hmac (k ++ List.replicate n 0) b = hmac k b := by
  unfold hmac
  rw [bkey_long k n h]

/-- "Jefe", and "what do ya want for nothing?". -/
def jefe : List UInt8 := [74, 101, 102, 101]
def what1 : List UInt8 := [119, 104, 97, 116, 32, 100, 111, 32, 121, 97, 32, 119, 97, 110, 116, 32]
def what2 : List UInt8 := [102, 111, 114, 32, 110, 111, 116, 104, 105, 110, 103, 63]
theorem hmac_jefe : (hmac jefe (what1 ++ what2)).take 4 = [91, 220, 193, 70] := by decide +kernel
end Go.Proofs.YtmhcfbfdbminnaaDoor
