/-
  The document's own answers for layer 1: Number, Bytes, Fixed, over this program.
-/
import Derived.Test.YtiakkfcjdmecdaaDoorORefFixed
import Derived.Test.YtiakkfcjdmecdaaDoorMOct
namespace Go.Proofs.YtiakkfcjdmecdaaDoor.O
open Go.RowKit

theorem enc_pow (k n : Nat) (h : n < 128 ^ (k + 1)) : (enc n).length ≤ k + 1 := by
  induction k generalizing n with
  | zero => rw [enc_small (by simpa using h)]; simp
  | succ k ih =>
    by_cases hn : n < 128
    · rw [enc_small hn]; simp
    · rw [enc_big (by omega), List.length_cons]
      have := ih (n / 128) (by rw [Nat.div_lt_iff_lt_mul (by omega)]; rw [Nat.pow_succ] at h; exact h)
      omega
theorem enc_six (n : Nat) (h : n ≤ 1099511627775) : (enc n).length ≤ 6 := enc_pow 5 n (by omega)

set_option maxHeartbeats 1000000 in
set_option maxRecDepth 100000 in
theorem refNumber_nat (n : Nat) (w : World) (hn : n ≤ 1099511627775) :
    Calls Tryd.prog 55 #[.int .i64 n] w (fun e w' => ∃ v, e = .returned v ∧ w'.ownsRow w.heap.size 5 1 v (enc n).length (bytesV (enc n)) ∧ w.grownBy w' none) := by
  induction n using Nat.strongRecOn generalizing w with
  | _ n ih =>
    have IH := Lib.hid ih
    clear ih
    have h1 : decide ((n : Int) < 0) = false := by simp
    have h2 : decide (1099511627775 < (n : Int)) = false := by simp; omega
    by_cases h : n < 128
    · have hE := enc_small h
      have hx : (n : Int) = ((UInt8.ofNat n).toNat : Int) := by rw [UInt8.toNat_ofNat']; omega
      generalize UInt8.ofNat n = x at hE hx
      have HE := Lib.hid hE
      have HX := Lib.hid hx
      clear hE hx
      go_enter Tryd.func55, Tryd.ntmps55
      go_wp2
      go_ret
      refine ⟨_, rfl, ?_, grown_alloc (grown_refl _ _) _⟩
      rw [HE.out, HX.out]
      exact World.ownsRow_lit w #[byteV x] 1 (Nat.le_refl _) (by decide) rfl
    · have hge : 128 ≤ n := by omega
      have hE := enc_big hge
      have hx : ((128 + n % 128 : Nat) : Int) = ((UInt8.ofNat (128 + n % 128)).toNat : Int) := by rw [UInt8.toNat_ofNat']; omega
      have hx2 : 128 + (n : Int) % 128 = ((UInt8.ofNat (128 + n % 128)).toNat : Int) := by rw [← hx]; omega
      generalize UInt8.ofNat (128 + n % 128) = x at hE hx hx2
      have HE := Lib.hid hE
      have HX := Lib.hid hx2
      have h6 := enc_six (n / 128) (by omega)
      have H6 : Hid ((enc (n / 128)).length ≤ 6) := h6
      clear hE hx hx2 h6
      obtain ⟨i, hi, hz, hs1, hb⟩ := info5
      have HI := Lib.hid (And.intro hi (And.intro hz (And.intro hs1 hb)))
      clear hb hi hz hs1
      have hdiv : (n : Int) / 128 = ((n / 128 : Nat) : Int) := by omega
      have HD := Lib.hid hdiv
      clear hdiv
      go_enter Tryd.func55, Tryd.ntmps55
      go_wp2_with fail
      rw [HD.out, HX.out]
      refine (IH.out (n / 128) (by omega) _ (by omega)).mono ?_
      rintro e w1 ⟨v1, rfl, ho1, hg1⟩
      have hR1 := Rd.of_own ho1
      have hO0 : w1.ownsRow w.heap.size 5 1 (.slice (some ⟨w.heap.size, 0, none⟩) 1 1) 1 [byteV x] :=
        (World.ownsRow_lit w #[byteV x] 1 (Nat.le_refl _) (by decide) rfl).kept hg1 (.inr (by simp [Value.ownBlock]))
      have HO1 := Lib.hid ho1
      clear ho1
      go_wp2_with (at_builtin; refine wpList_append_rd _ rfl _ _ _ rfl w.heap.size 5 i (.int .u8 0) 1 Tryd.underlying45 HI.out.1 HI.out.2.1 HI.out.2.2.1 HI.out.2.2.2 rfl _ 1 _ rfl hO0 _ (bytesV (enc (n / 128))) rfl hR1 (bytesV_one _) ?_ ?_ ?_ ?_)
      · rw [bytesV_len]; have := H6.out; omega
      · rw [bytesV_len]; have := H6.out; omega
      · have := hg1.size; simp at this; omega
      · intro v' w' ho hg hat
        go_wp2
        go_ret
        refine ⟨_, rfl, ?_, grown_new ((grown_alloc (grown_refl _ _) _).trans hg1) hg (fun b hb => ?_)⟩
        · rw [HE.out]
          have e : (x :: enc (n / 128)).length = 1 + (bytesV (enc (n / 128))).length := by rw [bytesV_len, List.length_cons, Nat.add_comm]
          rw [e]
          exact ho
        · simp [Value.ownBlock] at hb; omega

set_option maxHeartbeats 1000000 in
theorem refNumber_any (n : Int) (w : World) : Calls Tryd.prog 55 #[.int .i64 n] w (fun e w' => ∃ v, e = .returned v ∧ w'.ownsRow w.heap.size 5 1 v (enc (norm n)).length (bytesV (enc (norm n))) ∧ w.grownBy w' none) := by
  by_cases h : n < 0 ∨ 1099511627775 < n
  · have hn : norm n = 0 := by unfold norm; rw [if_pos h]
    rw [hn]
    have hE : enc 0 = [0] := by rw [enc_small (by omega)]; rfl
    rw [hE]
    clear hn hE
    by_cases h1 : n < 0
    · go_enter Tryd.func55, Tryd.ntmps55
      go_wp2
      go_ret
      exact ⟨_, rfl, World.ownsRow_lit w #[byteV 0] 1 (Nat.le_refl _) (by decide) rfl, grown_alloc (grown_refl _ _) _⟩
    · have h1b : decide (n < 0) = false := by simpa using h1
      have h2 : 1099511627775 < n := by omega
      go_enter Tryd.func55, Tryd.ntmps55
      go_wp2
      go_ret
      exact ⟨_, rfl, World.ownsRow_lit w #[byteV 0] 1 (Nat.le_refl _) (by decide) rfl, grown_alloc (grown_refl _ _) _⟩
  · have hn : n = (norm n : Int) := by unfold norm; rw [if_neg h]; omega
    have := refNumber_nat (norm n) w (norm_le n)
    rw [← hn] at this
    exact this
theorem refNumber_out (n : Int) (w : World) : Calls Tryd.prog 55 #[.int .i64 n] w (Out w (enc (norm n))) :=
  (refNumber_any n w).mono fun _ _ ⟨v, he, ho, hg⟩ => ⟨v, he, Rd.of_own ho, hg, fun b hb => ho.lt b hb⟩

set_option maxHeartbeats 1000000 in
theorem refBytes_out (u : Value) (x : List UInt8) (w : World) (hu : Rd w u (bytesV x)) (hx : x.length ≤ 1099511627775) :
    Calls Tryd.prog 56 #[u] w (Out w (enc x.length ++ x)) := by
  have hn : norm (x.length : Int) = x.length := by unfold norm; rw [if_neg (by omega)]; simp
  have HN := Lib.hid hn
  have H6 := Lib.hid (enc_six x.length hx)
  have HU := hu
  obtain ⟨A, c, rfl⟩ := hu.form
  rw [bytesV_len] at HU ⊢
  clear hu hn
  obtain ⟨i, hi, hz, hs1, hb⟩ := info5
  have HI := Lib.hid (And.intro hi (And.intro hz (And.intro hs1 hb)))
  clear hb hi hz hs1
  go_enter Tryd.func56, Tryd.ntmps56
  go_wp2_with fail
  refine (refNumber_any _ _).mono ?_
  rw [HN.out]
  rintro e w1 ⟨v1, rfl, ho1, hg1⟩
  have hR := HU.grown0 hg1
  go_wp2_with (at_builtin; refine wpList_append_rd _ rfl _ _ _ rfl w.heap.size 5 i (.int .u8 0) 1 Tryd.underlying45 HI.out.1 HI.out.2.1 HI.out.2.2.1 HI.out.2.2.2 rfl _ _ _ rfl ho1 _ (bytesV x) rfl hR (bytesV_one _) ?_ ?_ ?_ ?_)
  · rw [bytesV_len]; have := H6.out; omega
  · rw [bytesV_len]; have := H6.out; omega
  · exact hg1.size
  · intro v' w' ho hg hat
    go_wp2
    go_ret
    refine ⟨_, rfl, ?_, grown_new hg1 hg (fun b hb => (ho1.lt b hb).1), fun b hb => ho.lt b hb⟩
    rw [bytesV_app]
    exact Rd.of_own ho

end Go.Proofs.YtiakkfcjdmecdaaDoor.O
