/-
  sum.Of over this program: the sum of parts.
-/
import Derived.Test.YtmpelcgmfdggfaaDoorSumRef
namespace Go.Proofs.YtmpelcgmfdggfaaDoor
open Go.RowKit

/-- Slices that read as these bytes each. -/
def Parts (w : World) (vs : List Value) (ls : List (List UInt8)) : Prop := vs.length = ls.length ∧ ∀ (i : Nat) u m, vs[i]? = some u → ls[i]? = some m → Rd w u (bytesV m)
theorem Parts.nil (w : World) : Parts w [] [] := ⟨rfl, fun i u m h => by simp at h⟩
theorem Parts.cons {w : World} {u : Value} {m : List UInt8} {vs : List Value} {ls : List (List UInt8)} (h : Rd w u (bytesV m)) (t : Parts w vs ls) : Parts w (u :: vs) (m :: ls) := by
  refine ⟨by simp [t.1], fun i u' m' h1 h2 => ?_⟩
  cases i with
  | zero =>
    simp at h1 h2
    subst h1 h2
    exact h
  | succ i => exact t.2 i u' m' (by simpa using h1) (by simpa using h2)

theorem crc_nil : crc [] = 0#32 := by decide

set_option maxHeartbeats 1000000 in
theorem of_any (v : Value) (vs : List Value) (ls : List (List UInt8)) (w : World) (hT : Tab w) (hr : Rd w v vs) (hp : Parts w vs ls) :
    Calls Tryd.prog 10 #[v] w (U32 (crc ls.flatten) w) := by
  have HR := Lib.hid hr
  obtain ⟨A, c, rfl⟩ := hr.form
  obtain ⟨hl, hlc, hcm⟩ := hr.len
  have hk := hp.1
  generalize hkk : vs.length = len at *
  have HK := Lib.hid hk
  have HP := Lib.hid hp
  have HKK := Lib.hid hkk
  have HT := Lib.hid hT
  unfold maxLen at hcm
  clear hr hl hk hp hkk hT
  go_enter Tryd.func10, Tryd.ntmps10
  go_wp2
  go_loop [3, 8] (fun a i => ∃ k : Nat, k ≤ len ∧ i = .int .i64 k ∧ a = .int .u32 ((crc (ls.take k).flatten).toNat : Int)) (fun _ i => len - (intOf i).toNat)
  case atStart => exact ⟨0, Nat.zero_le _, rfl, by rw [List.take_zero, List.flatten_nil, crc_nil]; rfl⟩
  case round =>
    obtain ⟨k, hk, rfl, rfl⟩ := hrel
    by_cases hlt : k < len
    · obtain ⟨ad, u, rfl, hu, hcell⟩ := Rd.cellAt HR.out hlt
      have hkl : k < ls.length := by rw [← HK.out]; exact hlt
      have hru : Rd w u (bytesV ls[k]) := HP.out.2 k u _ hu (List.getElem?_eq_getElem hkl)
      have ht : (ls.take (k + 1)).flatten = (ls.take k).flatten ++ ls[k] := by
        rw [List.take_succ_eq_append_getElem hkl, List.flatten_append]
        simp
      have hcr := crc_more (ls.take k).flatten ls[k]
      rw [← ht] at hcr
      have HU := Lib.hid (update_any (crc (ls.take k).flatten) u ls[k] w HT.out hru)
      rw [hcr] at HU
      obtain ⟨A2, c2, rfl⟩ := hru.form
      generalize ls[k] = m at *
      clear hcr ht hu hru
      go_wp2_with fail
      refine HU.out.mono ?_
      rintro e w1 ⟨rfl, rfl⟩
      go_wp2
      go_round
      case rel => exact ⟨k + 1, by omega, by go_num, rfl⟩
      case measure => simp [intOf]; omega
    · have ht : ls.take k = ls := List.take_of_length_le (by rw [← HK.out]; omega)
      rw [ht]
      clear ht
      go_wp2
      go_ret
      exact ⟨rfl, rfl⟩

theorem un_zero (n : BitVec 32) (h : n.toNat < 2147483648) : ((n.toNat : Int) * 2) = ((un n).toNat : Int) := by
  have h1 : n.getLsbD 31 = false := by
    rw [← BitVec.testBit_toNat]
    exact Nat.testBit_lt_two_pow (by omega)
  unfold un
  rw [h1]
  simp only [Bool.false_eq_true, if_false]
  rw [BitVec.toNat_shiftLeft, Nat.shiftLeft_eq]
  omega
end Go.Proofs.YtmpelcgmfdggfaaDoor
