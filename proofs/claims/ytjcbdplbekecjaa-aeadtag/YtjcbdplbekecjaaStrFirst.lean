/-
  stream.firstWords over this program: the sixteen words at first.
-/
import Derived.Test.YtjcbdplbekecjaaStrWord
namespace Go.Proofs.Ytjcbdplbekecjaa
open Go.RowKit

def zeros16 : List Value := List.replicate 16 (.int .u32 0)
/-- So many words of the key are laid. -/
def stKey (key : List UInt8) (n : W32) (k : Nat) : List W32 := sigma ++ lewords key k ++ List.replicate (8 - k) 0 ++ [n, 0, 0, 0]
/-- So many words of the nonce are laid. -/
def stNonce (key : List UInt8) (n : W32) (nonce : List UInt8) (k : Nat) : List W32 := sigma ++ lewords key 8 ++ [n] ++ lewords nonce k ++ List.replicate (3 - k) 0
theorem stKey_len (key : List UInt8) (n : W32) (k : Nat) (h : k ≤ 8) : (stKey key n k).length = 16 := by simp [stKey, lewords_len, sigma]; omega
theorem stNonce_len (key : List UInt8) (n : W32) (nonce : List UInt8) (k : Nat) (h : k ≤ 3) : (stNonce key n nonce k).length = 16 := by simp [stNonce, lewords_len, sigma]; omega
theorem stKey_set (key : List UInt8) (n : W32) (k : Nat) (h : k < 8) : (stKey key n k).set (4 + k) (le4 key (4 * k)) = stKey key n (k + 1) := by
  unfold stKey
  have hp : (sigma ++ lewords key k).length = 4 + k := by simp [lewords_len, sigma]; omega
  rw [List.append_assoc, List.set_append_right _ _ (by omega), hp, Nat.sub_self, show 8 - k = 8 - (k + 1) + 1 by omega, List.replicate_succ, List.cons_append, List.set_cons_zero, lewords_succ]
  simp
theorem stNonce_set (key : List UInt8) (n : W32) (nonce : List UInt8) (k : Nat) (h : k < 3) : (stNonce key n nonce k).set (13 + k) (le4 nonce (4 * k)) = stNonce key n nonce (k + 1) := by
  unfold stNonce
  have hp : (sigma ++ lewords key 8 ++ [n] ++ lewords nonce k).length = 13 + k := by simp [lewords_len, sigma]; omega
  rw [List.set_append_right _ _ (by omega), hp, Nat.sub_self, show 3 - k = 3 - (k + 1) + 1 by omega, List.replicate_succ, List.set_cons_zero, lewords_succ nonce k]
  simp
theorem stKey_all (key : List UInt8) (n : W32) (nonce : List UInt8) : stKey key n 8 = stNonce key n nonce 0 := by simp [stKey, stNonce, lewords]
theorem stNonce_all (key : List UInt8) (n : W32) (nonce : List UInt8) : stNonce key n nonce 3 = firstW key n nonce := by simp [stNonce, firstW]
theorem stKey_none (key : List UInt8) (n : W32) : wordsV (stKey key n 0) = [.int .u32 1634760805, .int .u32 857760878, .int .u32 2036477234, .int .u32 1797285236, .int .u32 0, .int .u32 0, .int .u32 0, .int .u32 0, .int .u32 0, .int .u32 0, .int .u32 0, .int .u32 0, .int .u32 (n.toNat : Int), .int .u32 0, .int .u32 0, .int .u32 0] := by rfl

theorem slice_key (g k : Nat) (hk : k < 8) (w : World) : (Instr.sliceAt 22 (.pointer (some ⟨g, 0, none⟩)) (some (.int .i64 (4 * (k : Int)))) none none).run Try.prog w = .ok (.slice (some ⟨g, 4 * k, none⟩) (32 - 4 * k) (32 - 4 * k)) w := by
  have h4 : (4 * (k : Int)).toNat = 4 * k := by omega
  simp [Instr.sliceAt, go_sem, Instr.sliceBounds, Addr.add, h4]
  rw [if_pos (by omega), if_neg (by omega)]
  split
  · next h => rw [h]
  · rfl
theorem slice_nonce (g k : Nat) (hk : k < 3) (w : World) : (Instr.sliceAt 23 (.pointer (some ⟨g, 0, none⟩)) (some (.int .i64 (4 * (k : Int)))) none none).run Try.prog w = .ok (.slice (some ⟨g, 4 * k, none⟩) (12 - 4 * k) (12 - 4 * k)) w := by
  have h4 : (4 * (k : Int)).toNat = 4 * k := by omega
  simp [Instr.sliceAt, go_sem, Instr.sliceBounds, Addr.add, h4]
  rw [if_pos (by omega), if_neg (by omega)]
  split
  · next h => rw [h]
  · rfl
theorem slice_out (g k : Nat) (hk : k < 16) (w : World) : (Instr.sliceAt 49 (.pointer (some ⟨g, 0, none⟩)) (some (.int .i64 (4 * (k : Int)))) none none).run Try.prog w = .ok (.slice (some ⟨g, 4 * k, none⟩) (64 - 4 * k) (64 - 4 * k)) w := by
  have h4 : (4 * (k : Int)).toNat = 4 * k := by omega
  simp [Instr.sliceAt, go_sem, Instr.sliceBounds, Addr.add, h4]
  rw [if_pos (by omega), if_neg (by omega)]
  split
  · next h => rw [h]
  · rfl

set_option maxHeartbeats 4000000 in
theorem firstWords_any (key : List UInt8) (hk : key.length = 32) (n : W32) (nonce : List UInt8) (hn : nonce.length = 12) (w : World) :
    Calls Try.prog 37 #[.agg (bytesV key).toArray, .int .u32 (n.toNat : Int), .agg (bytesV nonce).toArray] w (Val (.agg (wordsV (firstW key n nonce)).toArray) w) := by
  have HK := Lib.hid hk
  have HN := Lib.hid hn
  clear hk hn
  generalize hG : w.heap.size = G
  have HG := Lib.hid hG
  go_enter Try.func37, Try.ntmps37
  go_wp2
  clear hG
  go_loopw [12] (fun i W => ∃ k : Nat, k ≤ 8 ∧ i = .int .i64 k ∧ Row W G 22 (bytesV key) ∧ Row W (G + 1) 23 (bytesV nonce) ∧ Row W (G + 1 + 1) 64 zeros16 ∧ Row W (G + 1 + 1 + 1) 64 (wordsV (stKey key n k)) ∧ w.grownBy W none) (fun i _ => 8 - (intOf i).toNat)
  case atStart =>
    have hg := HG.out
    exact ⟨0, Nat.zero_le _, rfl, (((Row.newAt w _ (bytesV key) hg).alloc _).alloc _).alloc _, ((Row.newAt _ _ (bytesV nonce) (by simp [hg])).alloc _).alloc _, (Row.newAt _ _ zeros16 (by simp [hg])).alloc _, by rw [stKey_none]; exact Row.newAt _ _ _ (by simp [hg]), grown_alloc (grown_alloc (grown_alloc (grown_alloc (grown_refl _ _) _) _) _) _⟩
  case round =>
    obtain ⟨k, hk, rfl, r0, r1, r2, r3, hgr⟩ := hrel
    have R0 := Lib.hid r0
    have R1 := Lib.hid r1
    have R2 := Lib.hid r2
    have R3 := Lib.hid r3
    have HGR := Lib.hid hgr
    clear r0 r1 r2 r3 hgr
    by_cases hlt : k < 8
    · have hsl := slice_key G k hlt
      have HC := Lib.hid (word_any key G (4 * k) (32 - 4 * k) (32 - 4 * k) 22 wr R0.out (by have := HK.out; omega) (by omega))
      go_wp2_with fail
      refine HC.out.mono ?_
      rintro e w1 ⟨rfl, hg1⟩
      have h3 := R3.out.grown0 hg1
      have hc := h3.cell (wordsV_getD _ (4 + k) (by rw [stKey_len _ _ _ hk]; omega))
      have hf := h3.frozen (4 + k)
      have H3 := Lib.hid h3
      have HG1 := Lib.hid hg1
      unfold wordV
      clear h3 hg1 hsl HC
      go_wp2
      go_roundw
      case rel =>
        refine ⟨k + 1, by omega, by go_num, (R0.out.grown0 HG1.out).other (by omega) _, (R1.out.grown0 HG1.out).other (by omega) _, (R2.out.grown0 HG1.out).other (by omega) _, ?_, grown_own (HGR.out.trans HG1.out) (grown_set w1 (G + 1 + 1 + 1) (4 + k) _) (by have := HG.out; omega)⟩
        rw [← stKey_set key n k hlt, ← wordsV_set]
        exact H3.out.set (4 + k) _
      case measure => simp [intOf]; omega
    · have hk8 : stKey key n k = stNonce key n nonce 0 := by rw [show k = 8 by omega]; exact stKey_all key n nonce
      rw [hk8] at R3
      clear hk8
      go_wp2
      go_loopw [23] (fun i W => ∃ k : Nat, k ≤ 3 ∧ i = .int .i64 k ∧ Row W (G + 1) 23 (bytesV nonce) ∧ Row W (G + 1 + 1) 64 zeros16 ∧ Row W (G + 1 + 1 + 1) 64 (wordsV (stNonce key n nonce k)) ∧ w.grownBy W none) (fun i _ => 3 - (intOf i).toNat)
      case atStart => exact ⟨0, Nat.zero_le _, rfl, R1.out, R2.out, R3.out, HGR.out⟩
      case round =>
        clear R0 R1 R2 R3 HGR
        obtain ⟨m, hm, rfl, r1, r2, r3, hgr⟩ := hrel
        have R1 := Lib.hid r1
        have R2 := Lib.hid r2
        have R3 := Lib.hid r3
        have HGR := Lib.hid hgr
        clear r1 r2 r3 hgr
        by_cases hlt3 : m < 3
        · have hsl := slice_nonce (G + 1) m hlt3
          have HC := Lib.hid (word_any nonce (G + 1) (4 * m) (12 - 4 * m) (12 - 4 * m) 23 wr R1.out (by have := HN.out; omega) (by omega))
          go_wp2_with fail
          refine HC.out.mono ?_
          rintro e w1 ⟨rfl, hg1⟩
          have h3 := R3.out.grown0 hg1
          have hc := h3.cell (wordsV_getD _ (13 + m) (by rw [stNonce_len _ _ _ _ hm]; omega))
          have hf := h3.frozen (13 + m)
          have H3 := Lib.hid h3
          have HG1 := Lib.hid hg1
          unfold wordV
          clear h3 hg1 hsl HC
          go_wp2
          go_roundw
          case rel =>
            refine ⟨m + 1, by omega, by go_num, (R1.out.grown0 HG1.out).other (by omega) _, (R2.out.grown0 HG1.out).other (by omega) _, ?_, grown_own (HGR.out.trans HG1.out) (grown_set w1 (G + 1 + 1 + 1) (13 + m) _) (by have := HG.out; omega)⟩
            rw [← stNonce_set key n nonce m hlt3, ← wordsV_set]
            exact H3.out.set (13 + m) _
          case measure => simp [intOf]; omega
        · have hm3 : stNonce key n nonce m = firstW key n nonce := by rw [show m = 3 by omega]; exact stNonce_all key n nonce
          rw [hm3] at R3
          have HL := Lib.hid (show (wordsV (firstW key n nonce)).length = 16 by rw [wordsV_len, firstW_len])
          have HO := Lib.hid (fun x hx => wordsV_one (firstW key n nonce) x hx)
          clear hm3
          generalize wordsV (firstW key n nonce) = xs at *
          go_wp2_with (first
            | refine wpList_load_row _ rfl _ _ rfl (G + 1 + 1 + 1) 64 xs _ rfl R3.out Try.underlying64 rfl (by rw [HL.out]; kernel_rfl) ?_
            | (refine wpList_store_row _ rfl rfl _ _ _ rfl (G + 1 + 1) 64 zeros16 xs rfl rfl R2.out (by rw [HL.out]; rfl) HO.out (by rw [HL.out]; kernel_rfl) ?_; intro w2 hr2 hg2))
          refine bodyPost_ret (v := .agg xs.toArray) ?_ rfl ⟨rfl, grown_own HGR.out hg2 (by have := HG.out; omega)⟩
          exact results_row Try.results37 (G + 1 + 1) 64 xs _ rfl hr2 Try.underlying64 rfl (by rw [HL.out]; kernel_rfl)
end Go.Proofs.Ytjcbdplbekecjaa
