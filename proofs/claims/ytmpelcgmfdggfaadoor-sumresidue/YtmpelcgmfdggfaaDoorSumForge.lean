/-
  sum.unshift and sum.Forge over this program.
-/
import Derived.Test.YtmpelcgmfdggfaaDoorSumOf
namespace Go.Proofs.YtmpelcgmfdggfaaDoor
open Go.RowKit

theorem top_bit (n : BitVec 32) : (bits .and .u32 (n.toNat : Int) 2147483648 == 0) = !n.getLsbD 31 := by
  have h := u32_and_nat n.toNat 2147483648 n.isLt (by omega)
  have h2 : n.toNat &&& 2147483648 = n.toNat / 2147483648 % 2 * 2147483648 := nat_bit 31 n.toNat
  rw [show ((2147483648 : Nat) : Int) = 2147483648 from rfl] at h
  rw [h, h2, ← BitVec.testBit_toNat, Nat.testBit_eq_decide_div_mod_eq]
  have h3 : n.toNat / 2147483648 % 2 = 0 ∨ n.toNat / 2147483648 % 2 = 1 := by omega
  rcases h3 with h3 | h3 <;> simp [h3]
theorem shl32 (x : BitVec 32) : (x.toNat : Int) * (2 : Int) % (4294967296 : Int) = ((x <<< 1).toNat : Int) := by
  rw [BitVec.toNat_shiftLeft, Nat.shiftLeft_eq]
  omega
theorem un_lo (n : BitVec 32) (h : n.getLsbD 31 = false) : (n.toNat : Int) * 2 % 4294967296 = ((un n).toNat : Int) := by
  unfold un
  rw [h]
  simp only [Bool.false_eq_true, if_false]
  rw [BitVec.toNat_shiftLeft, Nat.shiftLeft_eq]
  omega
theorem un_hi (n : BitVec 32) (h : n.getLsbD 31 = true) : bits .or .u32 (bits .xor .u32 (n.toNat : Int) 2197175160 * 2 % 4294967296) 1 = ((un n).toNat : Int) := by
  have h1 : bits .xor .u32 (n.toNat : Int) 2197175160 = ((n ^^^ poly).toNat : Int) := xor32 n poly
  have h2 := shl32 (n ^^^ poly)
  have h3 := u32_or_nat ((n ^^^ poly) <<< 1).toNat 1 ((n ^^^ poly) <<< 1).isLt (by omega)
  rw [h1, h2]
  unfold un
  rw [h]
  simp only [if_true]
  rw [BitVec.toNat_or]
  exact h3

set_option maxHeartbeats 400000 in
theorem unshift_any (n : BitVec 32) (w : World) :
    Calls Tryd.prog 15 #[.int .u32 (n.toNat : Int)] w (U32 (un n) w) := by
  have ht := top_bit n
  have h0 := un_lo n
  have h1 := un_hi n
  have H0 := Lib.hid h0
  have H1 := Lib.hid h1
  generalize n.toNat = N at *
  cases h : n.getLsbD 31
  · rw [h] at ht
    have HH := Lib.hid h
    simp only [Bool.not_false] at ht
    clear h h0 h1 H1
    go_enter Tryd.func15, Tryd.ntmps15
    go_wp2
    go_ret
    refine ⟨?_, rfl⟩
    rw [← H0.out HH.out]
    rfl
  · rw [h] at ht
    have HH := Lib.hid h
    simp only [Bool.not_true] at ht
    clear h h0 h1 H0
    go_enter Tryd.func15, Tryd.ntmps15
    go_wp2
    go_ret
    refine ⟨?_, rfl⟩
    rw [← H1.out HH.out]
    rfl

theorem le4_bytes (n : BitVec 32) : bytesV (le4 n) = [.int .u8 ((n.toNat : Int) % 256), .int .u8 ((n.toNat : Int) / 256 % 256), .int .u8 ((n.toNat : Int) / 65536 % 256), .int .u8 ((n.toNat : Int) / 16777216 % 256)] := by
  simp [bytesV, byteV, le4, Nat.shiftRight_eq_div_pow]

def forged (n : BitVec 32) : BitVec 32 := unN 32 ones ^^^ (n ^^^ ones)

set_option maxHeartbeats 1000000 in
theorem forge_any (n : BitVec 32) (w : World) :
    Calls Tryd.prog 13 #[.int .u32 (n.toNat : Int)] w fun e w' => e = .returned (.agg (bytesV (le4 (forged n))).toArray) ∧ w.grownBy w' none := by
  have H0 := Lib.hid (not32 n)
  have HX := Lib.hid (xor32 (unN 32 ones) (n ^^^ ones))
  have hs : IntKind.u32.signed = false := rfl
  go_enter Tryd.func13, Tryd.ntmps13
  go_wp2
  go_loop [3, 4] (fun a i => ∃ k : Nat, k ≤ 32 ∧ i = .int .i64 k ∧ a = .int .u32 ((unN k ones).toNat : Int)) (fun _ i => 32 - (intOf i).toNat)
  case atStart => exact ⟨0, Nat.zero_le _, rfl, rfl⟩
  case round =>
    obtain ⟨k, hk, rfl, rfl⟩ := hrel
    by_cases hlt : k < 32
    · have HU := unshift_any (unN k ones)
      rw [← unN_succ] at HU
      have HU0 := Lib.hid HU
      clear HU
      go_wp2_with fail
      refine (HU0.out _).mono ?_
      rintro e w1 ⟨rfl, rfl⟩
      go_wp2
      go_round
      case rel => exact ⟨k + 1, by omega, by go_num, rfl⟩
      case measure => simp [intOf]; omega
    · obtain rfl : k = 32 := by omega
      go_wp2
      rw [H0.out, HX.out]
      refine bodyPost_ret (v := .agg (bytesV (le4 (forged n))).toArray) ?_ rfl ⟨rfl, grown_alloc (grown_refl _ _) _⟩
      have HB := le4_bytes (forged n)
      unfold forged at HB ⊢
      generalize (unN 32 ones ^^^ (n ^^^ ones)) = F at *
      rw [HB]
      simp [results, Tryd.results13, go_sem]
end Go.Proofs.YtmpelcgmfdggfaaDoor
