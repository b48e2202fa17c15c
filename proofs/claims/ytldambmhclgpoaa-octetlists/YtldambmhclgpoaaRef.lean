/-
  The document's own answers for layer 1: Number, Bytes, Fixed, over this program.
-/
import Derived.Test.YtldambmhclgpoaaPuts
namespace Go.Proofs.Ytldambmhclgpoaa
open Go.RowKit

theorem enc_pow (k n : Nat) (h : n < 128 ^ (k + 1)) : (enc n).length ≤ k + 1 := by
  induction k generalizing n with
  | zero => rw [enc_small (by simpa using h)]; simp
  | succ k ih =>
    by_cases hn : n < 128
    · rw [enc_small hn]; simp
    · rw [enc_big (by omega), List.length_cons]
      have := ih (n / 128) (by rw [Nat.div_lt_iff_lt_mul (by omega)]; rw [Nat.pow_succ] at h; exact h)
      omega
theorem enc_six (n : Nat) (h : n ≤ 1099511627775) : (enc n).length ≤ 6 := enc_pow 5 n (by omega)

set_option maxHeartbeats 1000000 in
set_option maxRecDepth 100000 in
theorem refNumber_nat (n : Nat) (w : World) (hn : n ≤ 1099511627775) :
    Calls Try.prog 12 #[.int .i64 n] w (fun e w' => ∃ v, e = .returned v ∧ w'.ownsRow w.heap.size 5 1 v (enc n).length (bytesV (enc n)) ∧ w.grownBy w' none) := by
  induction n using Nat.strongRecOn generalizing w with
  | _ n ih =>
    have IH := Lib.hid ih
    clear ih
    have h1 : decide ((n : Int) < 0) = false := by simp
    have h2 : decide (1099511627775 < (n : Int)) = false := by simp; omega
    by_cases h : n < 128
    · have hE := enc_small h
      have hx : (n : Int) = ((UInt8.ofNat n).toNat : Int) := by rw [UInt8.toNat_ofNat']; omega
      generalize UInt8.ofNat n = x at hE hx
      have HE := Lib.hid hE
      have HX := Lib.hid hx
      clear hE hx
      go_enter Try.func12, Try.ntmps12
      go_wp2
      go_ret
      refine ⟨_, rfl, ?_, grown_alloc (grown_refl _ _) _⟩
      rw [HE.out, HX.out]
      exact World.ownsRow_lit w #[byteV x] 1 (Nat.le_refl _) (by decide) rfl
    · have hge : 128 ≤ n := by omega
      have hE := enc_big hge
      have hx : ((128 + n % 128 : Nat) : Int) = ((UInt8.ofNat (128 + n % 128)).toNat : Int) := by rw [UInt8.toNat_ofNat']; omega
      have hx2 : 128 + (n : Int) % 128 = ((UInt8.ofNat (128 + n % 128)).toNat : Int) := by rw [← hx]; omega
      generalize UInt8.ofNat (128 + n % 128) = x at hE hx hx2
      have HE := Lib.hid hE
      have HX := Lib.hid hx2
      have h6 := enc_six (n / 128) (by omega)
      have H6 : Hid ((enc (n / 128)).length ≤ 6) := h6
      clear hE hx hx2 h6
      obtain ⟨i, hi, hz, hs1, hb⟩ := info5
      have HI := Lib.hid (And.intro hi (And.intro hz (And.intro hs1 hb)))
      clear hb hi hz hs1
      have hdiv : (n : Int) / 128 = ((n / 128 : Nat) : Int) := by omega
      have HD := Lib.hid hdiv
      clear hdiv
      go_enter Try.func12, Try.ntmps12
      go_wp2_with fail
      rw [HD.out, HX.out]
      refine (IH.out (n / 128) (by omega) _ (by omega)).mono ?_
      rintro e w1 ⟨v1, rfl, ho1, hg1⟩
      have hR1 := Rd.of_own ho1
      have hO0 : w1.ownsRow w.heap.size 5 1 (.slice (some ⟨w.heap.size, 0, none⟩) 1 1) 1 [byteV x] :=
        (World.ownsRow_lit w #[byteV x] 1 (Nat.le_refl _) (by decide) rfl).kept hg1 (.inr (by simp [Value.ownBlock]))
      have HO1 := Lib.hid ho1
      clear ho1
      go_wp2_with (at_builtin; refine wpList_append_rd _ rfl _ _ _ rfl w.heap.size 5 i (.int .u8 0) 1 Try.underlying22 HI.out.1 HI.out.2.1 HI.out.2.2.1 HI.out.2.2.2 rfl _ 1 _ rfl hO0 _ (bytesV (enc (n / 128))) rfl hR1 (bytesV_one _) ?_ ?_ ?_ ?_)
      · rw [bytesV_len]; have := H6.out; omega
      · rw [bytesV_len]; have := H6.out; omega
      · have := hg1.size; simp at this; omega
      · intro v' w' ho hg hat
        go_wp2
        go_ret
        refine ⟨_, rfl, ?_, grown_new ((grown_alloc (grown_refl _ _) _).trans hg1) hg (fun b hb => ?_)⟩
        · rw [HE.out]
          have e : (x :: enc (n / 128)).length = 1 + (bytesV (enc (n / 128))).length := by rw [bytesV_len, List.length_cons, Nat.add_comm]
          rw [e]
          exact ho
        · simp [Value.ownBlock] at hb; omega

set_option maxHeartbeats 1000000 in
theorem refNumber_any (n : Int) (w : World) : Calls Try.prog 12 #[.int .i64 n] w (fun e w' => ∃ v, e = .returned v ∧ w'.ownsRow w.heap.size 5 1 v (enc (norm n)).length (bytesV (enc (norm n))) ∧ w.grownBy w' none) := by
  by_cases h : n < 0 ∨ 1099511627775 < n
  · have hn : norm n = 0 := by unfold norm; rw [if_pos h]
    rw [hn]
    have hE : enc 0 = [0] := by rw [enc_small (by omega)]; rfl
    rw [hE]
    clear hn hE
    by_cases h1 : n < 0
    · go_enter Try.func12, Try.ntmps12
      go_wp2
      go_ret
      exact ⟨_, rfl, World.ownsRow_lit w #[byteV 0] 1 (Nat.le_refl _) (by decide) rfl, grown_alloc (grown_refl _ _) _⟩
    · have h1b : decide (n < 0) = false := by simpa using h1
      have h2 : 1099511627775 < n := by omega
      go_enter Try.func12, Try.ntmps12
      go_wp2
      go_ret
      exact ⟨_, rfl, World.ownsRow_lit w #[byteV 0] 1 (Nat.le_refl _) (by decide) rfl, grown_alloc (grown_refl _ _) _⟩
  · have hn : n = (norm n : Int) := by unfold norm; rw [if_neg h]; omega
    have := refNumber_nat (norm n) w (norm_le n)
    rw [← hn] at this
    exact this
theorem refNumber_out (n : Int) (w : World) : Calls Try.prog 12 #[.int .i64 n] w (Out w (enc (norm n))) :=
  (refNumber_any n w).mono fun _ _ ⟨v, he, ho, hg⟩ => ⟨v, he, Rd.of_own ho, hg, fun b hb => ho.lt b hb⟩

set_option maxHeartbeats 1000000 in
theorem refBytes_out (u : Value) (x : List UInt8) (w : World) (hu : Rd w u (bytesV x)) (hx : x.length ≤ 1099511627775) :
    Calls Try.prog 14 #[u] w (Out w (enc x.length ++ x)) := by
  have hn : norm (x.length : Int) = x.length := by unfold norm; rw [if_neg (by omega)]; simp
  have HN := Lib.hid hn
  have H6 := Lib.hid (enc_six x.length hx)
  have HU := hu
  obtain ⟨A, c, rfl⟩ := hu.form
  rw [bytesV_len] at HU ⊢
  clear hu hn
  obtain ⟨i, hi, hz, hs1, hb⟩ := info5
  have HI := Lib.hid (And.intro hi (And.intro hz (And.intro hs1 hb)))
  clear hb hi hz hs1
  go_enter Try.func14, Try.ntmps14
  go_wp2_with fail
  refine (refNumber_any _ _).mono ?_
  rw [HN.out]
  rintro e w1 ⟨v1, rfl, ho1, hg1⟩
  have hR := HU.grown0 hg1
  go_wp2_with (at_builtin; refine wpList_append_rd _ rfl _ _ _ rfl w.heap.size 5 i (.int .u8 0) 1 Try.underlying22 HI.out.1 HI.out.2.1 HI.out.2.2.1 HI.out.2.2.2 rfl _ _ _ rfl ho1 _ (bytesV x) rfl hR (bytesV_one _) ?_ ?_ ?_ ?_)
  · rw [bytesV_len]; have := H6.out; omega
  · rw [bytesV_len]; have := H6.out; omega
  · exact hg1.size
  · intro v' w' ho hg hat
    go_wp2
    go_ret
    refine ⟨_, rfl, ?_, grown_new hg1 hg (fun b hb => (ho1.lt b hb).1), fun b hb => ho.lt b hb⟩
    rw [bytesV_app]
    exact Rd.of_own ho

set_option maxHeartbeats 1000000 in
theorem refFixed_out (n : Nat) (k : Int) (w : World) (hn : n < 18446744073709551616) :
    Calls Try.prog 16 #[.int .u64 n, .int .i64 k] w (Out w (low (wid k) n)) := by
  have HNN : Hid (n < 18446744073709551616) := hn
  clear hn
  have hcase : (∃ K : Nat, k = (K : Int) ∧ K ≤ 8 ∧ wid k = K) ∨ (k ≤ 0 ∧ wid k = 0) ∨ (8 < k ∧ wid k = 0) := by
    by_cases h0 : 0 ≤ k
    · by_cases h8 : k ≤ 8
      · refine .inl ⟨k.toNat, by omega, by omega, ?_⟩
        unfold wid
        rw [if_pos (by simp [okWidth]; omega)]
      · refine .inr (.inr ⟨by omega, ?_⟩)
        unfold wid
        rw [if_neg (by simp [okWidth]; omega)]
    · refine .inr (.inl ⟨by omega, ?_⟩)
      unfold wid
      rw [if_neg (by simp [okWidth]; omega)]
  rcases hcase with ⟨K, rfl, hK, hw⟩ | ⟨h0, hw⟩ | ⟨h8, hw⟩
  · rw [hw]
    clear hw
    obtain ⟨i, hi, hz, hs1, hb⟩ := info5
    have HI := Lib.hid (And.intro hi (And.intro hz (And.intro hs1 hb)))
    clear hb hi hz hs1
    go_enter Try.func16, Try.ntmps16
    go_wp2
    go_loopw [0, 5, 6] (fun a s t W => ∃ (j m : Nat), j ≤ K ∧ t = .int .i64 j ∧ a = .int .u64 m ∧ m = n / 256 ^ j ∧ W.ownsRow w.heap.size 5 1 s j (bytesV (low j n)) ∧ w.grownBy W none) (fun _ _ t _ => K - (intOf t).toNat)
    case atStart => exact ⟨0, n, Nat.zero_le _, rfl, rfl, by simp, World.ownsRow_nil _ _ _ _, grown_refl _ _⟩
    case round =>
      obtain ⟨j, m, hj, rfl, rfl, hm, hown, hgr⟩ := hrel
      have HM := Lib.hid hm
      clear hm
      by_cases hlt : j < K
      · have hlt1 : decide ((j : Int) < (K : Int)) = true := by simpa using hlt
        have hK1 : decide ((K : Int) ≤ 8) = true := by simp; omega
        have hE := low_snoc j n
        rw [← HM.out] at hE
        have hx : (m : Int) % 256 = ((UInt8.ofNat m).toNat : Int) := by rw [UInt8.toNat_ofNat']; omega
        generalize UInt8.ofNat m = x at hE hx
        have HX := Lib.hid hx
        have HE := Lib.hid hE
        clear hx hE
        go_wp2_with (at_builtin; refine wpList_append_rd _ rfl _ _ _ rfl w.heap.size 5 i (.int .u8 0) 1 Try.underlying22 HI.out.1 HI.out.2.1 HI.out.2.2.1 HI.out.2.2.2 rfl _ j _ rfl (hown.alloc _) _ [byteV x] rfl ?_ (fun x hx => by simp at hx; subst hx; rfl) ?_ ?_ ?_ ?_)
        · rw [HX.out]; exact Rd.one _ _ _
        · simp; omega
        · simp; omega
        · have := hgr.size; simp; omega
        · intro v' w' ho hg hat
          go_wp2
          have hle : m ≤ n := by rw [HM.out]; exact Nat.div_le_self _ _
          have hwr : IntKind.u64.wrap ((m : Int) / 256) = ((m / 256 : Nat) : Int) := by
            have := HNN.out
            rw [IntKind.wrap_u64]
            omega
          refine ⟨⟨j + 1, m / 256, by omega, by go_num, by rw [hwr], ?_, ?_, ?_⟩, by simp [intOf]; omega⟩
          · rw [HM.out, Nat.div_div_eq_div_mul, Nat.pow_succ]
          · rw [HE.out, bytesV_app]; exact ho
          · exact grown_new (grown_alloc hgr _) hg fun b hb => (hown.lt b hb).1
      · have hjK : j = K := by omega
        have HJ := Lib.hid hjK
        clear hjK
        have hlt1 : decide ((j : Int) < (K : Int)) = false := by simpa using hlt
        go_wp2
        go_ret
        exact ⟨_, rfl, by rw [← HJ.out]; exact Rd.of_own hown, hgr, fun b hb => hown.lt b hb⟩
  · rw [hw]
    clear hw
    have h0b : decide (0 < k) = false := by simpa using h0
    go_enter Try.func16, Try.ntmps16
    go_wp2
    go_loopw [0, 5, 6] (fun a s t W => a = .int .u64 n ∧ t = .int .i64 0 ∧ s = .slice none 0 0 ∧ w = W) (fun _ _ _ _ => 0)
    case atStart => exact ⟨rfl, rfl, rfl, rfl⟩
    case round =>
      obtain ⟨rfl, rfl, rfl, rfl⟩ := hrel
      go_wp2
      go_ret
      exact ⟨_, rfl, Rd.nil _, grown_refl _ _, fun b hb => by cases hb⟩
  · rw [hw]
    clear hw
    have h0b : decide (0 < k) = true := by simp; omega
    have h8b : decide (k ≤ 8) = false := by simp; omega
    go_enter Try.func16, Try.ntmps16
    go_wp2
    go_loopw [0, 5, 6] (fun a s t W => a = .int .u64 n ∧ t = .int .i64 0 ∧ s = .slice none 0 0 ∧ w = W) (fun _ _ _ _ => 0)
    case atStart => exact ⟨rfl, rfl, rfl, rfl⟩
    case round =>
      obtain ⟨rfl, rfl, rfl, rfl⟩ := hrel
      go_wp2
      go_ret
      exact ⟨_, rfl, Rd.nil _, grown_refl _ _, fun b hb => by cases hb⟩
end Go.Proofs.Ytldambmhclgpoaa
