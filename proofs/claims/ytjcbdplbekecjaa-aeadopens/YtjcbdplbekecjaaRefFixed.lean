/-
  The document's own Fixed, over this program.
-/
import Derived.Test.YtjcbdplbekecjaaPutFix
namespace Go.Proofs.Ytjcbdplbekecjaa
open Go.RowKit

set_option maxHeartbeats 1000000 in
theorem refFixed_out (n : Nat) (k : Int) (w : World) (hn : n < 18446744073709551616) :
    Calls Try.prog 18 #[.int .u64 n, .int .i64 k] w (Out w (low (wid k) n)) := by
  have HNN : Hid (n < 18446744073709551616) := hn
  clear hn
  have hcase : (∃ K : Nat, k = (K : Int) ∧ K ≤ 8 ∧ wid k = K) ∨ (k ≤ 0 ∧ wid k = 0) ∨ (8 < k ∧ wid k = 0) := by
    by_cases h0 : 0 ≤ k
    · by_cases h8 : k ≤ 8
      · refine .inl ⟨k.toNat, by omega, by omega, ?_⟩
        unfold wid
        rw [if_pos (by simp [okWidth]; omega)]
      · refine .inr (.inr ⟨by omega, ?_⟩)
        unfold wid
        rw [if_neg (by simp [okWidth]; omega)]
    · refine .inr (.inl ⟨by omega, ?_⟩)
      unfold wid
      rw [if_neg (by simp [okWidth]; omega)]
  rcases hcase with ⟨K, rfl, hK, hw⟩ | ⟨h0, hw⟩ | ⟨h8, hw⟩
  · rw [hw]
    clear hw
    obtain ⟨i, hi, hz, hs1, hb⟩ := info5
    have HI := Lib.hid (And.intro hi (And.intro hz (And.intro hs1 hb)))
    clear hb hi hz hs1
    go_enter Try.func18, Try.ntmps18
    go_wp2
    go_loopw [0, 5, 6] (fun a s t W => ∃ (j m : Nat), j ≤ K ∧ t = .int .i64 j ∧ a = .int .u64 m ∧ m = n / 256 ^ j ∧ W.ownsRow w.heap.size 5 1 s j (bytesV (low j n)) ∧ w.grownBy W none) (fun _ _ t _ => K - (intOf t).toNat)
    case atStart => exact ⟨0, n, Nat.zero_le _, rfl, rfl, by simp, World.ownsRow_nil _ _ _ _, grown_refl _ _⟩
    case round =>
      obtain ⟨j, m, hj, rfl, rfl, hm, hown, hgr⟩ := hrel
      have HM := Lib.hid hm
      clear hm
      by_cases hlt : j < K
      · have hlt1 : decide ((j : Int) < (K : Int)) = true := by simpa using hlt
        have hK1 : decide ((K : Int) ≤ 8) = true := by simp; omega
        have hE := low_snoc j n
        rw [← HM.out] at hE
        have hx : (m : Int) % 256 = ((UInt8.ofNat m).toNat : Int) := by rw [UInt8.toNat_ofNat']; omega
        generalize UInt8.ofNat m = x at hE hx
        have HX := Lib.hid hx
        have HE := Lib.hid hE
        clear hx hE
        go_wp2_with (at_builtin; refine wpList_append_rd _ rfl _ _ _ rfl w.heap.size 5 i (.int .u8 0) 1 Try.underlying24 HI.out.1 HI.out.2.1 HI.out.2.2.1 HI.out.2.2.2 rfl _ j _ rfl (hown.alloc _) _ [byteV x] rfl ?_ (fun x hx => by simp at hx; subst hx; rfl) ?_ ?_ ?_ ?_)
        · rw [HX.out]; exact Rd.one _ _ _
        · simp; omega
        · simp; omega
        · have := hgr.size; simp; omega
        · intro v' w' ho hg hat
          go_wp2
          have hle : m ≤ n := by rw [HM.out]; exact Nat.div_le_self _ _
          have hwr : IntKind.u64.wrap ((m : Int) / 256) = ((m / 256 : Nat) : Int) := by
            have := HNN.out
            rw [IntKind.wrap_u64]
            omega
          refine ⟨⟨j + 1, m / 256, by omega, by go_num, by rw [hwr], ?_, ?_, ?_⟩, by simp [intOf]; omega⟩
          · rw [HM.out, Nat.div_div_eq_div_mul, Nat.pow_succ]
          · rw [HE.out, bytesV_app]; exact ho
          · exact grown_new (grown_alloc hgr _) hg fun b hb => (hown.lt b hb).1
      · have hjK : j = K := by omega
        have HJ := Lib.hid hjK
        clear hjK
        have hlt1 : decide ((j : Int) < (K : Int)) = false := by simpa using hlt
        go_wp2
        go_ret
        exact ⟨_, rfl, by rw [← HJ.out]; exact Rd.of_own hown, hgr, fun b hb => hown.lt b hb⟩
  · rw [hw]
    clear hw
    have h0b : decide (0 < k) = false := by simpa using h0
    go_enter Try.func18, Try.ntmps18
    go_wp2
    go_loopw [0, 5, 6] (fun a s t W => a = .int .u64 n ∧ t = .int .i64 0 ∧ s = .slice none 0 0 ∧ w = W) (fun _ _ _ _ => 0)
    case atStart => exact ⟨rfl, rfl, rfl, rfl⟩
    case round =>
      obtain ⟨rfl, rfl, rfl, rfl⟩ := hrel
      go_wp2
      go_ret
      exact ⟨_, rfl, Rd.nil _, grown_refl _ _, fun b hb => by cases hb⟩
  · rw [hw]
    clear hw
    have h0b : decide (0 < k) = true := by simp; omega
    have h8b : decide (k ≤ 8) = false := by simp; omega
    go_enter Try.func18, Try.ntmps18
    go_wp2
    go_loopw [0, 5, 6] (fun a s t W => a = .int .u64 n ∧ t = .int .i64 0 ∧ s = .slice none 0 0 ∧ w = W) (fun _ _ _ _ => 0)
    case atStart => exact ⟨rfl, rfl, rfl, rfl⟩
    case round =>
      obtain ⟨rfl, rfl, rfl, rfl⟩ := hrel
      go_wp2
      go_ret
      exact ⟨_, rfl, Rd.nil _, grown_refl _ _, fun b hb => by cases hb⟩
end Go.Proofs.Ytjcbdplbekecjaa
