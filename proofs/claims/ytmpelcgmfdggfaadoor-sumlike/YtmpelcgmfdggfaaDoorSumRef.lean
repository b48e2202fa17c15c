/-
  The document's own sum, bit by bit, over this program.
-/
import Derived.Test.YtmpelcgmfdggfaaDoorSumUpdate
namespace Go.Proofs.YtmpelcgmfdggfaaDoor
open Go.RowKit

theorem st_nat (n : BitVec 32) : (st n).toNat = if n.toNat % 2 = 1 then ((n >>> 1) ^^^ poly).toNat else n.toNat / 2 := by
  unfold st
  have h : n.getLsbD 0 = decide (n.toNat % 2 = 1) := by rw [← BitVec.testBit_toNat, Nat.testBit_zero]
  rw [h]
  by_cases h1 : n.toNat % 2 = 1
  · simp [h1]
  · simp [h1, Nat.shiftRight_eq_div_pow]
theorem st_odd (n : BitVec 32) (h : n.toNat % 2 = 1) : bits .xor .u32 ((n.toNat : Int) / 2) 2197175160 = ((st n).toNat : Int) := by
  rw [st_nat, if_pos h, ← xor32, BitVec.toNat_ushiftRight, Nat.shiftRight_eq_div_pow]
  congr 1
theorem st_even (n : BitVec 32) (h : ¬ n.toNat % 2 = 1) : (n.toNat : Int) / 2 = ((st n).toNat : Int) := by
  rw [st_nat, if_neg h]
  omega

set_option maxHeartbeats 1000000 in
theorem refOf_any (v : Value) (l : List UInt8) (w : World) (hr : Rd w v (bytesV l)) :
    Calls Tryd.prog 11 #[v] w (U32 (crc l) w) := by
  have HR := Lib.hid hr
  obtain ⟨A, c, rfl⟩ := hr.form
  obtain ⟨hl, hlc, hcm⟩ := hr.len
  have hk := bytesV_len l
  generalize hkk : (bytesV l).length = len at *
  have HK := Lib.hid hk
  unfold maxLen at hcm
  clear hr hl hk hkk
  go_enter Tryd.func11, Tryd.ntmps11
  go_wp2
  go_loop [3, 4] (fun a i => ∃ k : Nat, k ≤ len ∧ i = .int .i64 k ∧ a = .int .u32 ((run ones (l.take k)).toNat : Int)) (fun _ i => len - (intOf i).toNat)
  case atStart => exact ⟨0, Nat.zero_le _, rfl, rfl⟩
  case round =>
    obtain ⟨k, hk, rfl, rfl⟩ := hrel
    by_cases hlt : k < len
    · obtain ⟨ad, y, rfl, hd, hcell⟩ := Rd.at_ HR.out (k := k) (by rw [← HK.out]; exact hlt)
      have ht : l.take (k + 1) = l.take k ++ [y] := by
        have hkl : k < l.length := by rw [← HK.out]; exact hlt
        have e := List.drop_eq_getElem_cons hkl
        rw [hd] at e
        injection e with e1 e2
        rw [List.take_succ_eq_append_getElem hkl, ← e1]
      have hrun : run ones (l.take (k + 1)) = stN 8 (run ones (l.take k) ^^^ BitVec.ofNat 32 y.toNat) := by
        rw [ht, run_append, run_cons]
        rfl
      have hx := xor32 (run ones (l.take k)) (BitVec.ofNat 32 y.toNat)
      rw [conv32] at hx
      generalize run ones (l.take k) = s at *
      have HX := Lib.hid hx
      have HRN := Lib.hid hrun
      have hy := UInt8.toNat_lt y
      clear hx hrun ht hd
      go_wp2
      rw [HX.out]
      generalize s ^^^ BitVec.ofNat 32 y.toNat = s1 at *
      clear HX
      go_loop [3, 5] (fun a i => ∃ j : Nat, j ≤ 8 ∧ i = .int .i64 j ∧ a = .int .u32 ((stN j s1).toNat : Int)) (fun _ i => 8 - (intOf i).toNat)
      case atStart => exact ⟨0, Nat.zero_le _, rfl, rfl⟩
      case round =>
        obtain ⟨j, hj, rfl, rfl⟩ := hrel
        by_cases hj8 : j < 8
        · have hS := stN_succ j s1
          have hodd := st_odd (stN j s1)
          have heven := st_even (stN j s1)
          rw [← hS] at hodd heven
          have hlt2 := (stN j s1).isLt
          generalize stN j s1 = t at *
          generalize t.toNat = T at *
          have HO := Lib.hid hodd
          have HE := Lib.hid heven
          clear hodd heven hS
          by_cases hT : T % 2 = 1
          · have hb : ((T : Int) % 2 == 1) = true := by simp; omega
            have HT := Lib.hid hT
            clear hT
            go_wp2
            go_round
            case rel => exact ⟨j + 1, by omega, by go_num, by rw [HO.out HT.out]⟩
            case measure => simp [intOf]; omega
          · have hb : ((T : Int) % 2 == 1) = false := by simp; omega
            have HT := Lib.hid hT
            clear hT
            go_wp2
            go_round
            case rel => exact ⟨j + 1, by omega, by go_num, by rw [HE.out HT.out]⟩
            case measure => simp [intOf]; omega
        · obtain rfl : j = 8 := by omega
          rw [← HRN.out]
          go_wp2
          go_round
          case rel => exact ⟨k + 1, by omega, by go_num, rfl⟩
          case measure => simp [intOf]; omega
    · have ht : l.take k = l := List.take_of_length_le (by rw [← HK.out]; omega)
      rw [ht]
      have hn : bits .xor .u32 ((run ones l).toNat : Int) 4294967295 = ((crc l).toNat : Int) := by
        have := xor32 (run ones l) ones
        exact this
      have HN := Lib.hid hn
      clear hn ht
      go_wp2
      go_ret
      refine ⟨?_, rfl⟩
      rw [← HN.out]
      rfl
end Go.Proofs.YtmpelcgmfdggfaaDoor
