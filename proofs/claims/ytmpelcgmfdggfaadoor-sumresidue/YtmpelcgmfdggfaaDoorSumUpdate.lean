/-
  sum.Update over this program: the sum of some bytes more.
-/
import Derived.Test.YtmpelcgmfdggfaaDoorSumHalf
namespace Go.Proofs.YtmpelcgmfdggfaaDoor
open Go.RowKit

theorem not32 (n : BitVec 32) : bits .xor .u32 IntKind.u32.max (n.toNat : Int) = ((n ^^^ ones).toNat : Int) := by
  have h : IntKind.u32.max = ((ones.toNat : Nat) : Int) := by decide
  rw [h, xor32, BitVec.xor_comm]
theorem conv32 (c : UInt8) : ((BitVec.ofNat 32 c.toNat).toNat : Int) = (c.toNat : Int) := by
  have := UInt8.toNat_lt c
  rw [BitVec.toNat_ofNat]
  omega

set_option maxHeartbeats 400000 in
theorem update_any (n : BitVec 32) (v : Value) (l : List UInt8) (w : World) (hT : Tab w) (hr : Rd w v (bytesV l)) :
    Calls Tryd.prog 12 #[.int .u32 (n.toNat : Int), v] w (U32 (run (n ^^^ ones) l ^^^ ones) w) := by
  have HR := Lib.hid hr
  obtain ⟨A, c, rfl⟩ := hr.form
  obtain ⟨hl, hlc, hcm⟩ := hr.len
  have hk := bytesV_len l
  generalize hkk : (bytesV l).length = len at *
  have HK := Lib.hid hk
  unfold maxLen at hcm
  clear hr hl hk hkk
  have H0 := Lib.hid (not32 n)
  generalize n ^^^ ones = s0 at *
  generalize n.toNat = N at *
  have hs : IntKind.u32.signed = false := rfl
  go_enter Tryd.func12, Tryd.ntmps12
  go_wp2
  rw [H0.out]
  clear H0
  go_loop [0, 11] (fun a i => ∃ k : Nat, k ≤ len ∧ i = .int .i64 k ∧ a = .int .u32 ((run s0 (l.take k)).toNat : Int)) (fun _ i => len - (intOf i).toNat)
  case atStart => exact ⟨0, Nat.zero_le _, rfl, rfl⟩
  case round =>
    obtain ⟨k, hk, rfl, rfl⟩ := hrel
    by_cases hlt : k < len
    · obtain ⟨ad, y, rfl, hd, hcell⟩ := Rd.at_ HR.out (k := k) (by rw [← HK.out]; exact hlt)
      have ht : l.take (k + 1) = l.take k ++ [y] := by
        have hkl : k < l.length := by rw [← HK.out]; exact hlt
        have e := List.drop_eq_getElem_cons hkl
        rw [hd] at e
        injection e with e1 e2
        rw [List.take_succ_eq_append_getElem hkl, ← e1]
      have hrun : run s0 (l.take (k + 1)) = stN 4 (stN 4 (run s0 (l.take k) ^^^ BitVec.ofNat 32 y.toNat)) := by
        rw [ht, run_append, run_cons]
        exact (stN_add 4 4 _)
      have hx := xor32 (run s0 (l.take k)) (BitVec.ofNat 32 y.toNat)
      rw [conv32] at hx
      generalize run s0 (l.take k) = s at *
      have HX := Lib.hid hx
      have HRN := Lib.hid hrun
      have hy := UInt8.toNat_lt y
      clear hx hrun ht hd
      go_wp2_with fail
      rw [HX.out]
      refine (shiftHalf_any _ w hT).mono ?_
      rintro e w1 ⟨rfl, rfl⟩
      go_wp2_with fail
      refine (shiftHalf_any _ _ hT).mono ?_
      rintro e w1 ⟨rfl, rfl⟩
      go_wp2
      go_round
      case rel => exact ⟨k + 1, by omega, by go_num, by rw [HRN.out]⟩
      case measure => simp [intOf]; omega
    · have ht : l.take k = l := List.take_of_length_le (by rw [← HK.out]; omega)
      rw [ht]
      have HN := Lib.hid (not32 (run s0 l))
      clear ht
      go_wp2
      go_ret
      refine ⟨?_, rfl⟩
      rw [← HN.out]
      rfl
end Go.Proofs.YtmpelcgmfdggfaaDoor
