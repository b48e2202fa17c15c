/-
  The document's own Pad over this program.
-/
import Derived.Test.YtmhcfbfdbminnaaDoorDigPad
namespace Go.Proofs.YtmhcfbfdbminnaaDoor
open Go.RowKit

theorem be8_drop (x k : Nat) (h : k < 8) : (be8 x).drop (8 - (k + 1)) = UInt8.ofNat (x / 256 ^ k) :: (be8 x).drop (8 - k) := by
  rw [List.drop_eq_getElem_cons (by rw [be8_len]; omega), show 8 - (k + 1) + 1 = 8 - k by omega]
  congr 1
  simp [be8, show 7 - (7 - k) = k by omega]
theorem own_lit1 (w : World) (base : Nat) (x : UInt8) (hb : base ≤ w.heap.size) : (w.alloc (.cells #[byteV x] 5)).ownsRow base 5 1 (.slice (some ⟨w.heap.size, 0, none⟩) 1 1) 1 (bytesV [x]) :=
  World.ownsRow_lit w #[byteV x] 1 hb (by decide) rfl

set_option maxHeartbeats 4000000 in
theorem refPad_any (n : Nat) (hn : n ≤ 2199023255552) (w : World) :
    Calls Tryd.prog 28 #[.int .i64 (n : Int)] w (Out w (pad n)) := by
  have h0 : decide ((n : Int) < 0) = false := by simp
  have hz : padZ n = (119 - n % 64) % 64 := rfl
  have hp : pad n = 128 :: List.replicate (padZ n) 0 ++ be8 (8 * n) := rfl
  generalize padZ n = z at *
  have HP := Lib.hid hp
  have HZ := Lib.hid hz
  clear hp hz
  go_enter Tryd.func28, Tryd.ntmps28
  go_wp2
  go_loopw [3] (fun p W => ∃ j : Nat, j ≤ z ∧ W.ownsRow w.heap.size 5 1 p (1 + j) (bytesV (128 :: List.replicate j 0)) ∧ w.grownBy W none) (fun p _ => match p with | .slice _ m _ => 65 - m | _ => 0)
  case atStart => exact ⟨0, Nat.zero_le _, own_lit1 w _ 128 (Nat.le_refl _), grown_alloc (grown_refl _ _) _⟩
  case round =>
    obtain ⟨j, hj, ho, hg⟩ := hrel
    have HO := Lib.hid ho
    have HG := Lib.hid hg
    obtain ⟨g, cap, rfl⟩ : ∃ g cap, u3 = .slice (some ⟨g, 0, none⟩) (1 + j) cap := by
      rcases ho.2 with ⟨_, h⟩ | ⟨g, cap, cur, h, _⟩
      · omega
      · exact ⟨g, cap, h⟩
    clear ho hg
    have hz64 : z < 64 := by have := HZ.out; omega
    by_cases hlt : j < z
    · have hq : ((((n : Int) % 64 + (1 + (j : Int)) + 8) % 64) != 0) = true := by have := HZ.out; simp; omega
      go_wp2_with (at_builtin; refine wpList_append_bytes _ rfl _ _ rfl w.heap.size _ (1 + j) _ rfl (HO.out.alloc _) _ [0] rfl ?_ ?_ ?_ ?_)
      · exact Rd.one _ _ _
      · simp; omega
      · have := HG.out.size; simp; omega
      · intro v' w' ho hg hat
        obtain ⟨g', cap', rfl⟩ : ∃ g cap, v' = .slice (some ⟨g, 0, none⟩) (1 + j + 1) cap := by
          rcases ho.2 with ⟨_, h⟩ | ⟨g, cap, cur, h, _⟩
          · simp at h
          · exact ⟨g, cap, h⟩
        have HO' := Lib.hid ho
        have HG' := Lib.hid hg
        clear ho hg hat
        go_wp2
        go_roundw
        case rel =>
          refine ⟨j + 1, by omega, ?_, grown_new (grown_alloc HG.out _) HG'.out (fun b hb => (HO.out.lt b hb).1)⟩
          have := HO'.out
          rw [← bytesV_app] at this
          have e : (128 :: List.replicate j 0 : List UInt8) ++ [0] = 128 :: List.replicate (j + 1) 0 := by simp [List.replicate_succ']
          rw [e] at this
          exact this
        case measure => simp; omega
    · have hq : ((((n : Int) % 64 + (1 + (j : Int)) + 8) % 64) != 0) = false := by have := HZ.out; simp; omega
      have hjz : j = z := by omega
      have HJZ := Lib.hid hjz
      clear hjz
      have hsz := HG.out.size
      go_wp2
      go_loopw [4, 5, 6] (fun a u i W => ∃ k : Nat, k ≤ 8 ∧ i = .int .i64 k ∧ a = .int .u64 ((8 * n / 256 ^ k : Nat) : Int) ∧ Rd W u (bytesV ((be8 (8 * n)).drop (8 - k))) ∧ W.ownsRow w.heap.size 5 1 (.slice (some ⟨g, 0, none⟩) (1 + j) cap) (1 + j) (bytesV (128 :: List.replicate j 0)) ∧ w.grownBy W none) (fun _ _ i _ => 8 - (intOf i).toNat)
      case atStart => exact ⟨0, Nat.zero_le _, rfl, by congr 1; simp; omega, by rw [Nat.sub_zero, List.drop_of_length_le (by rw [be8_len]; exact Nat.le_refl _)]; exact Rd.nil _, HO.out, HG.out⟩
      case round =>
        clear HO HG hsz
        obtain ⟨k, hk, rfl, rfl, hru, ho, hg⟩ := hrel
        have HO := Lib.hid ho
        have HG := Lib.hid hg
        have HRU := Lib.hid hru
        obtain ⟨A, c, rfl⟩ := hru.form
        clear ho hg hru
        by_cases hlk : k < 8
        · have hN : 8 * n / 256 ^ k ≤ 17592186044416 := by
            have := Nat.div_le_self (8 * n) (256 ^ k)
            omega
          have hnx : 8 * n / 256 ^ (k + 1) = 8 * n / 256 ^ k / 256 := by rw [Nat.pow_succ, Nat.div_div_eq_div_mul]
          have HD := Lib.hid (be8_drop (8 * n) k hlk)
          have HNX := Lib.hid hnx
          have hlen : (bytesV ((be8 (8 * n)).drop (8 - k))).length = k := by rw [bytesV_len, List.length_drop, be8_len]; omega
          rw [hlen]
          have hlen2 : ((be8 (8 * n)).drop (8 - k)).length = k := by rw [List.length_drop, be8_len]; omega
          generalize (be8 (8 * n)).drop (8 - k) = t at *
          generalize 8 * n / 256 ^ k = N at *
          have hx : ((N : Int) % 256) = ((UInt8.ofNat N).toNat : Int) := by rw [UInt8.toNat_ofNat']; omega
          have HX := Lib.hid hx
          have HL2 := Lib.hid hlen2
          have HLEN := Lib.hid hlen
          clear hx hlen hlen2 hnx
          have hru' := HRU.out
          rw [HLEN.out] at hru'
          have HRU' := Lib.hid hru'
          clear hru'
          go_wp2_with (at_builtin; refine wpList_append_bytes _ rfl _ _ rfl wr.heap.size _ 1 (bytesV [UInt8.ofNat N]) rfl ?_ _ t rfl (HRU'.out.grown0 (grown_alloc (grown_refl _ _) _)) ?_ ?_ ?_)
          · rw [HX.out]; exact own_lit1 wr _ _ (Nat.le_refl _)
          · rw [HL2.out]; omega
          · simp
          · intro v' w' ho hg hat
            have hg' : wr.grownBy w' none := grown_new (grown_alloc (grown_refl _ _) _) hg (fun b hb => by simp [Value.ownBlock] at hb; omega)
            have HO' := Lib.hid ho
            have HG' := Lib.hid hg'
            clear ho hg hat hg'
            go_wp2
            go_roundw
            case rel =>
              refine ⟨k + 1, by omega, by go_num, by rw [HNX.out]; go_num, ?_, HO.out.kept HG'.out (by simp [Value.ownBlock]), HG.out.trans HG'.out⟩
              rw [HD.out]
              exact Rd.of_own HO'.out
            case measure => simp [intOf]; omega
        · have hd : (be8 (8 * n)).drop (8 - k) = be8 (8 * n) := by rw [show 8 - k = 0 by omega, List.drop_zero]
          rw [hd] at HRU ⊢
          clear hd
          go_wp2_with (at_builtin; refine wpList_append_bytes _ rfl _ _ rfl w.heap.size _ (1 + j) _ rfl HO.out _ (be8 (8 * n)) rfl HRU.out ?_ ?_ ?_)
          · rw [be8_len]; omega
          · exact HG.out.size
          · intro v' w' ho hg hat
            go_wp2
            go_ret
            refine ⟨_, rfl, ?_, grown_new HG.out hg (fun b hb => (HO.out.lt b hb).1), fun b hb => ho.lt b hb⟩
            have := Rd.of_own ho
            rw [← bytesV_app, HJZ.out, ← HP.out] at this
            exact this
set_option maxHeartbeats 1000000 in
theorem refPad_below (n : Int) (hn : n < 0) (w : World) :
    Calls Tryd.prog 28 #[.int .i64 n] w (Out w []) := by
  have h0 : decide (n < 0) = true := by simpa using hn
  go_enter Tryd.func28, Tryd.ntmps28
  go_wp2
  go_ret
  exact ⟨_, rfl, Rd.nil _, grown_refl _ _, fun b hb => by cases hb⟩
end Go.Proofs.YtmhcfbfdbminnaaDoor
