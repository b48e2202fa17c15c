/-
  octet.firstNumber over this program: the number at the beginning of bytes.
-/
import Derived.Test.YtldambmhclgpoaaRdr
namespace Go.Proofs.Ytldambmhclgpoaa
open Go.RowKit

/-- The number whose bytes come, with 'acc' of k bytes gone past; how many bytes it has; its error. -/
def fnum : Nat → Nat → Nat → List UInt8 → Nat × Nat × Int
  | 0, _, _, _ => (0, 0, 4)
  | _ + 1, _, _, [] => (0, 0, 2)
  | f + 1, k, acc, c :: r =>
    if 128 ≤ c.toNat then fnum f (k + 1) (acc + c.toNat % 128 * 128 ^ k) r
    else if c.toNat = 0 ∧ 0 < k then (0, 0, 4)
    else (acc + c.toNat % 128 * 128 ^ k, k + 1, 0)
def first (l : List UInt8) : Nat × Nat × Int := fnum 6 0 0 l

/-- What firstNumber answers. -/
def FirstOut (w : World) (p : Nat × Nat × Int) (e : Ending) (w' : World) : Prop :=
  e = .returned (.tuple #[.int .i64 p.1, .int .i64 p.2.1, .int .i64 p.2.2]) ∧ w = w'

theorem fnum_more {k acc : Nat} {y : UInt8} {r : List UInt8} (hk : k < 6) (h : 128 ≤ y.toNat) :
    fnum (6 - k) k acc (y :: r) = fnum (6 - (k + 1)) (k + 1) (acc + y.toNat % 128 * 128 ^ k) r := by
  obtain ⟨f, hf⟩ : ∃ f, 6 - k = f + 1 := ⟨5 - k, by omega⟩
  rw [hf, show 6 - (k + 1) = f by omega, fnum, if_pos h]
theorem fnum_form {k acc : Nat} {y : UInt8} {r : List UInt8} (hk : k < 6) (h : y.toNat = 0) (h0 : 0 < k) :
    fnum (6 - k) k acc (y :: r) = (0, 0, 4) := by
  obtain ⟨f, hf⟩ : ∃ f, 6 - k = f + 1 := ⟨5 - k, by omega⟩
  rw [hf, fnum, if_neg (by omega), if_pos ⟨h, h0⟩]
theorem fnum_last {k acc : Nat} {y : UInt8} {r : List UInt8} (hk : k < 6) (h : y.toNat < 128) (h0 : ¬ (y.toNat = 0 ∧ 0 < k)) :
    fnum (6 - k) k acc (y :: r) = (acc + y.toNat % 128 * 128 ^ k, k + 1, 0) := by
  obtain ⟨f, hf⟩ : ∃ f, 6 - k = f + 1 := ⟨5 - k, by omega⟩
  rw [hf, fnum, if_neg (by omega), if_neg h0]
theorem fnum_short {k acc : Nat} (hk : k < 6) : fnum (6 - k) k acc [] = (0, 0, 2) := by
  obtain ⟨f, hf⟩ : ∃ f, 6 - k = f + 1 := ⟨5 - k, by omega⟩
  rw [hf, fnum]

theorem ofInt64 (a : Nat) (ha : a < 9223372036854775808) : (BitVec.ofInt 64 (a : Int)).toNat = a := by
  rw [BitVec.ofInt_natCast, BitVec.toNat_ofNat]; exact Nat.mod_eq_of_lt (by omega)
theorem or_i64 (a b : Nat) (ha : a < 9223372036854775808) (hb : b < 9223372036854775808) : bits .or .i64 (a : Int) (b : Int) = ((a ||| b : Nat) : Int) := by
  have hx : a ||| b < 2 ^ 63 := Nat.or_lt_two_pow (by omega) (by omega)
  show IntKind.i64.wrap ((BitVec.ofInt 64 (a : Int) ||| BitVec.ofInt 64 (b : Int)).toNat : Int) = _
  rw [BitVec.toNat_or, ofInt64 a ha, ofInt64 b hb, IntKind.wrap_i64]
  omega
theorem or_add (a d i : Nat) (h : a < 2 ^ i) : a ||| d * 2 ^ i = a + d * 2 ^ i := by
  have := Nat.shiftLeft_add_eq_or_of_lt h d
  rw [Nat.shiftLeft_eq] at this
  rw [Nat.or_comm, ← this, Nat.add_comm]
theorem pow128 (k : Nat) : 2 ^ (7 * k) = 128 ^ k := by rw [Nat.pow_mul]
theorem put7 (acc d k : Nat) (hk : k < 6) (hacc : acc < 128 ^ k) :
    bits BinOp.or IntKind.i64 (acc : Int) (wrap64 ((d : Int) % 128 * 2 ^ (7 * k))) = ((acc + d % 128 * 128 ^ k : Nat) : Int) ∧ acc + d % 128 * 128 ^ k < 128 ^ (k + 1) := by
  have hp : (128 : Nat) ^ k ≤ 128 ^ 5 := Nat.pow_le_pow_right (by omega) (by omega)
  have h2 : d % 128 * 128 ^ k ≤ 127 * 128 ^ k := Nat.mul_le_mul_right _ (by omega)
  have e1 : ((d : Int) % 128 * 2 ^ (7 * k)) = ((d % 128 * 128 ^ k : Nat) : Int) := by
    rw [← pow128]
    push_cast
    rfl
  have h3 := or_add acc (d % 128) (7 * k) (by rw [pow128]; exact hacc)
  rw [pow128] at h3
  constructor
  · rw [e1]
    have e2 : wrap64 ((d % 128 * 128 ^ k : Nat) : Int) = ((d % 128 * 128 ^ k : Nat) : Int) := by unfold wrap64; omega
    rw [e2, or_i64 _ _ (by omega) (by omega), h3]
  · rw [Nat.pow_succ]
    omega

theorem put7_0 (acc k : Nat) (hk : k < 6) (hacc : acc < 128 ^ k) :
    bits BinOp.or IntKind.i64 (acc : Int) (wrap64 0) = ((acc + 0 % 128 * 128 ^ k : Nat) : Int) := by
  have h := (put7 acc 0 k hk hacc).1
  simpa using h

set_option maxHeartbeats 1000000 in
set_option maxRecDepth 100000 in
theorem first_any (v : Value) (l : List UInt8) (w : World) (hv : Rd w v (bytesV l)) (hl : l.length ≤ 140737488355328) :
    Calls Try.prog 36 #[v] w (FirstOut w (first l)) := by
  have HV := hv
  obtain ⟨A, c, rfl, hlc, hcm, _⟩ := hv
  rw [bytesV_len] at hlc HV ⊢
  have hc63 : (c : Int) ≤ 9223372036854775807 := by simp only [maxLen] at hcm; omega
  clear hcm
  generalize hn : l.length = n at *
  have HN := Lib.hid hn
  clear hn
  by_cases hn6 : n ≤ 6
  · go_enter Try.func36, Try.ntmps36
    go_wp2
    go_loop [2, 13] (fun a t => ∃ (k acc : Nat), k ≤ n ∧ t = .int .i64 k ∧ a = .int .i64 acc ∧ acc < 128 ^ k ∧ fnum (6 - k) k acc (l.drop k) = first l) (fun _ t => n - (intOf t).toNat)
    case atStart => exact ⟨0, 0, Nat.zero_le _, rfl, rfl, by simp, rfl⟩
    case round =>
      obtain ⟨k, acc, hk, rfl, rfl, hacc, hf⟩ := hrel
      have HA : Hid (acc < 128 ^ k) := hacc
      by_cases hlt : k < n
      · obtain ⟨ad, y, rfl, hd, hck⟩ := HV.at_ (k := k) (by rw [HN.out]; omega)
        rw [hd] at hf
        have hb : y.toNat < 256 := UInt8.toNat_lt _
        have HF := Lib.hid hf
        clear hf hd hacc
        go_wp2
        · have h7 := put7 acc y.toNat k (by omega) HA.out
          have hy : 128 ≤ y.toNat := by omega
          rw [fnum_more (by omega) hy] at HF
          exact ⟨⟨k + 1, _, by omega, by go_num, congrArg _ h7.1, h7.2, HF.out⟩, by simp [intOf]; omega⟩
        · rw [fnum_form (by omega) ‹_› ‹_›] at HF
          go_ret3
          exact ⟨by rw [← HF.out]; rfl, rfl⟩
        · have h7 := put7_0 acc k (by omega) HA.out
          have hy0 : y.toNat = 0 := ‹_›
          rw [fnum_last (by omega) (by omega) (by omega), hy0] at HF
          go_ret3
          exact ⟨by rw [← HF.out, h7]; rfl, rfl⟩
        · have h7 := put7 acc y.toNat k (by omega) HA.out
          rw [fnum_last (by omega) (by omega) (by omega)] at HF
          go_ret3
          exact ⟨by rw [← HF.out, h7.1]; rfl, rfl⟩
      · have hkn : k = n := by omega
        have hdr : l.drop k = [] := List.drop_eq_nil_of_le (by rw [HN.out]; omega)
        rw [hdr] at hf
        have HF := Lib.hid hf
        clear hf hdr hacc
        have HK := Lib.hid hkn
        clear hkn
        by_cases hn5 : n < 6
        · rw [fnum_short (by omega)] at HF
          go_wp2
          go_ret3
          exact ⟨by rw [← HF.out]; rfl, rfl⟩
        · have h6 : 6 - k = 0 := by omega
          rw [h6, fnum] at HF
          clear h6
          go_wp2
          go_ret3
          exact ⟨by rw [← HF.out]; rfl, rfl⟩
  · go_enter Try.func36, Try.ntmps36
    go_wp2
    go_loop [2, 13] (fun a t => ∃ (k acc : Nat), k ≤ 6 ∧ t = .int .i64 k ∧ a = .int .i64 acc ∧ acc < 128 ^ k ∧ fnum (6 - k) k acc (l.drop k) = first l) (fun _ t => 6 - (intOf t).toNat)
    case atStart => exact ⟨0, 0, Nat.zero_le _, rfl, rfl, by simp, rfl⟩
    case round =>
      obtain ⟨k, acc, hk, rfl, rfl, hacc, hf⟩ := hrel
      have HA : Hid (acc < 128 ^ k) := hacc
      by_cases hlt : k < 6
      · obtain ⟨ad, y, rfl, hd, hck⟩ := HV.at_ (k := k) (by rw [HN.out]; omega)
        rw [hd] at hf
        have hb : y.toNat < 256 := UInt8.toNat_lt _
        have HF := Lib.hid hf
        clear hf hd hacc
        go_wp2
        · have h7 := put7 acc y.toNat k (by omega) HA.out
          have hy : 128 ≤ y.toNat := by omega
          rw [fnum_more (by omega) hy] at HF
          exact ⟨⟨k + 1, _, by omega, by go_num, congrArg _ h7.1, h7.2, HF.out⟩, by simp [intOf]; omega⟩
        · rw [fnum_form (by omega) ‹_› ‹_›] at HF
          go_ret3
          exact ⟨by rw [← HF.out]; rfl, rfl⟩
        · have h7 := put7_0 acc k (by omega) HA.out
          have hy0 : y.toNat = 0 := ‹_›
          rw [fnum_last (by omega) (by omega) (by omega), hy0] at HF
          go_ret3
          exact ⟨by rw [← HF.out, h7]; rfl, rfl⟩
        · have h7 := put7 acc y.toNat k (by omega) HA.out
          rw [fnum_last (by omega) (by omega) (by omega)] at HF
          go_ret3
          exact ⟨by rw [← HF.out, h7.1]; rfl, rfl⟩
      · have h6 : 6 - k = 0 := by omega
        rw [h6, fnum] at hf
        have HF := Lib.hid hf
        clear hf h6 hacc
        go_wp2
        go_ret3
        exact ⟨by rw [← HF.out]; rfl, rfl⟩
end Go.Proofs.Ytldambmhclgpoaa
