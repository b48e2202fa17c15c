/-
  The document's own answers for layer 1: Read, Take, ReadBytes, ReadFixed, End, over this program.
-/
import Derived.Test.YtldambmhclgpoaaRef
import Derived.Test.YtldambmhclgpoaaRFix
namespace Go.Proofs.Ytldambmhclgpoaa
open Go.RowKit

/-- What a read of the document's own answers: the state behind it, and what was read (u). -/
def StOut (w : World) (v : Value) (l : List UInt8) (x : Int) (u : Value) (e : Ending) (w' : World) : Prop :=
  ∃ v', e = .returned (.tuple #[.agg #[v', .int .i64 x], u]) ∧ Rd w' v' (bytesV l) ∧ (∀ b, v'.ownBlock = some b → v.ownBlock = some b) ∧ w.grownBy w' none

set_option maxHeartbeats 2000000 in
set_option maxRecDepth 100000 in
theorem refRead_any (v : Value) (l : List UInt8) (x most : Int) (w : World) (hv : Rd w v (bytesV l)) (hl : l.length ≤ 140737488355328) :
    Calls Try.prog 18 #[.agg #[v, .int .i64 x], .int .i64 most] w (StOut w v (numOf l x most).2.1 (numOf l x most).2.2 (.int .i64 (numOf l x most).1)) := by
  have HV := hv
  obtain ⟨A, c, rfl⟩ := hv.form
  rw [bytesV_len] at HV ⊢
  clear hv
  by_cases hx : x = 0
  · subst hx
    obtain ⟨_, hlc, hcm⟩ := HV.len
    have hc63 : (c : Int) ≤ 9223372036854775807 := by simp only [maxLen] at hcm; omega
    have HCM : Hid (c ≤ maxLen) := hcm
    clear hcm
    go_enter Try.func18, Try.ntmps18
    go_wp2
    have HV1 := HV.grown0 (grown_alloc (grown_alloc (grown_refl w none) (.cells #[.slice A l.length c, .int .i64 0] 37)) (.cells #[.slice none 0 0, .int .i64 0] 37))
    generalize hn : l.length = n at *
    have HN := Lib.hid hn
    clear hn
    go_loop [6, 7, 8, 9] (fun a p t _ => ∃ (k acc pw : Nat), k ≤ 6 ∧ k ≤ n ∧ t = .int .i64 k ∧ a = .int .i64 acc ∧ p = .int .i64 pw ∧ pw = 128 ^ k ∧ acc < 128 ^ k ∧ fnum (6 - k) k acc (l.drop k) = first l) (fun _ _ t _ => 6 - (intOf t).toNat)
    case atStart => exact ⟨0, 0, 1, by omega, Nat.zero_le _, rfl, rfl, rfl, by simp, by simp, rfl⟩
    case round =>
      obtain ⟨k, acc, pw, hk6, hkn, rfl, rfl, rfl, hpw, hacc, hf⟩ := hrel
      have HA : Hid (acc < 128 ^ k) := hacc
      have HPW := Lib.hid hpw
      clear hacc hpw
      by_cases h6 : k < 6
      · have hp5 : pw ≤ 34359738368 := by
          rw [HPW.out]
          have : (128 : Nat) ^ k ≤ 128 ^ 5 := Nat.pow_le_pow_right (by omega) (by omega)
          omega
        have ha5 : acc < 34359738368 := by
          have := HA.out
          rw [← HPW.out] at this
          omega
        by_cases hlt : k < n
        · obtain ⟨ad, y, rfl, hd, hck⟩ := HV1.at_ (k := k) (by rw [HN.out]; exact hlt)
          rw [hd] at hf
          have hb : y.toNat < 256 := UInt8.toNat_lt _
          have HF := Lib.hid hf
          clear hf hd
          obtain ⟨q, hq⟩ : ∃ q, q = y.toNat % 128 * pw := ⟨_, rfl⟩
          have hq2 : q ≤ 127 * pw := by rw [hq]; exact Nat.mul_le_mul_right _ (by omega)
          have hq3 : wrap64 ((y.toNat : Int) % 128 * (pw : Int)) = (q : Int) := by
            have e : (y.toNat : Int) % 128 * (pw : Int) = (q : Int) := by rw [hq]; push_cast; rfl
            rw [e]
            unfold wrap64
            omega
          have HQ := Lib.hid hq
          clear hq
          have hne : ((k : Int) == (n : Int)) = false := by simp; omega
          by_cases hy : 128 ≤ y.toNat
          · have hyi : (128 : Int) ≤ (y.toNat : Int) := by omega
            go_wp2
            have hF := HF.out
            rw [fnum_more h6 hy] at hF
            refine ⟨⟨k + 1, acc + q, pw * 128, by omega, by omega, by go_num, by go_num, by go_num, ?_, ?_, ?_⟩, by simp [intOf]; omega⟩
            · rw [HPW.out, Nat.pow_succ]
            · rw [HQ.out, HPW.out]; exact acc_lt _ _ _ HA.out
            · rw [HQ.out, HPW.out]; exact hF
          · have hy : y.toNat < 128 := by omega
            by_cases hk0 : 0 < k
            · by_cases hy0 : y.toNat = 0
              · have hy0b : ((y.toNat : Int) == 0) = true := by simp; omega
                have HNM : Hid (numOf l 0 most = (0, l, 4)) := by
                  show _ = _
                  have hF := HF.out
                  rw [fnum_form h6 hy0 hk0] at hF
                  unfold numOf
                  rw [if_pos rfl, ← hF]
                  rfl
                go_wp2
                rw [HNM.out]
                refine bodyPost_ret (v := .tuple #[.agg #[.slice (some ad) n c, .int .i64 4], .int .i64 0]) (by simp [results, Try.results18, go_sem]) rfl ?_
                exact ⟨_, rfl, (HV.grown0 (grown_alloc (grown_alloc (grown_refl _ _) _) _)), fun b hb => hb, grown_alloc (grown_alloc (grown_refl _ _) _) _⟩
              · have hy0b : ((y.toNat : Int) == 0) = false := by simp; omega
                have hF := HF.out
                rw [fnum_last h6 hy (by omega), ← HPW.out, ← HQ.out] at hF
                have hNM : numOf l 0 most = if most < ((acc + q : Nat) : Int) ∨ 1099511627775 < acc + q then (0, l, 3) else (acc + q, l.drop (k + 1), 0) := by
                  unfold numOf
                  rw [if_pos rfl, ← hF]
                  simp
                clear hF
                by_cases hr1 : most < ((acc + q : Nat) : Int)
                · rw [if_pos (.inl hr1)] at hNM
                  have HNM := Lib.hid hNM
                  clear hNM
                  have hr1b : most < (acc : Int) + (q : Int) := by omega
                  go_wp2
                  rw [HNM.out]
                  refine bodyPost_ret (v := .tuple #[.agg #[.slice (some ad) n c, .int .i64 3], .int .i64 0]) (by simp [results, Try.results18, go_sem]) rfl ?_
                  exact ⟨_, rfl, (HV.grown0 (grown_alloc (grown_alloc (grown_refl _ _) _) _)), fun b hb => hb, grown_alloc (grown_alloc (grown_refl _ _) _) _⟩
                · have hr1b : decide (most < (acc : Int) + (q : Int)) = false := by simp; omega
                  by_cases hr2 : 1099511627775 < acc + q
                  · rw [if_pos (.inr hr2)] at hNM
                    have HNM := Lib.hid hNM
                    clear hNM
                    have hr2b : 1099511627775 < (acc : Int) + (q : Int) := by omega
                    go_wp2
                    rw [HNM.out]
                    refine bodyPost_ret (v := .tuple #[.agg #[.slice (some ad) n c, .int .i64 3], .int .i64 0]) (by simp [results, Try.results18, go_sem]) rfl ?_
                    exact ⟨_, rfl, (HV.grown0 (grown_alloc (grown_alloc (grown_refl _ _) _) _)), fun b hb => hb, grown_alloc (grown_alloc (grown_refl _ _) _) _⟩
                  · rw [if_neg (by omega)] at hNM
                    have HNM := Lib.hid hNM
                    clear hNM
                    have hr2b : decide (1099511627775 < (acc : Int) + (q : Int)) = false := by simp; omega
                    have HDR := Lib.hid (HV.drop (n := k + 1) (by omega))
                    have HDE : Hid (c = k + 1 → l.drop (k + 1) = []) := fun h => List.drop_eq_nil_of_le (by rw [HN.out]; omega)
                    have HNE : Hid (c = k + 1 → n - (k + 1) = 0) := fun h => by omega
                    go_wp2
                    · rw [HNM.out]
                      refine bodyPost_ret (v := .tuple #[.agg #[.slice (some ad) (n - (k + 1)) 0, .int .i64 0], .int .i64 ((acc + q : Nat) : Int)]) (by simp [results, Try.results18, go_sem]) rfl ?_
                      refine ⟨_, rfl, ?_, fun b hb => by rw [← hb]; exact own_len _ _ _ _ _, grown_alloc (grown_alloc (grown_refl _ _) _) _⟩
                      rw [HNE.out ‹_›]
                      show Rd _ _ (bytesV (l.drop (k + 1)))
                      rw [HDE.out ‹_›]
                      exact Rd.empty _ _ _ (Nat.zero_le _)
                    · rw [HNM.out]
                      refine bodyPost_ret (v := .tuple #[.agg #[.slice (some (ad.add (k + 1))) (n - (k + 1)) (c - (k + 1)), .int .i64 0], .int .i64 ((acc + q : Nat) : Int)]) (by simp [results, Try.results18, go_sem]) rfl ?_
                      refine ⟨_, rfl, ?_, fun b hb => ?_, grown_alloc (grown_alloc (grown_refl _ _) _) _⟩
                      · show Rd _ _ (List.map byteV (l.drop (k + 1)))
                        rw [List.map_drop]
                        exact HDR.out.grown0 (grown_alloc (grown_alloc (grown_refl _ _) _) _)
                      · rw [← hb]
                        exact (own_map (some ad) (k + 1) _ _ _ _).symm
            · have hk0b : decide (0 < k) = false := by simpa using hk0
              have hF := HF.out
              rw [fnum_last h6 hy (by omega), ← HPW.out, ← HQ.out] at hF
              have hNM : numOf l 0 most = if most < ((acc + q : Nat) : Int) ∨ 1099511627775 < acc + q then (0, l, 3) else (acc + q, l.drop (k + 1), 0) := by
                unfold numOf
                rw [if_pos rfl, ← hF]
                simp
              clear hF
              by_cases hr1 : most < ((acc + q : Nat) : Int)
              · rw [if_pos (.inl hr1)] at hNM
                have HNM := Lib.hid hNM
                clear hNM
                have hr1b : most < (acc : Int) + (q : Int) := by omega
                go_wp2
                rw [HNM.out]
                refine bodyPost_ret (v := .tuple #[.agg #[.slice (some ad) n c, .int .i64 3], .int .i64 0]) (by simp [results, Try.results18, go_sem]) rfl ?_
                exact ⟨_, rfl, (HV.grown0 (grown_alloc (grown_alloc (grown_refl _ _) _) _)), fun b hb => hb, grown_alloc (grown_alloc (grown_refl _ _) _) _⟩
              · have hr1b : decide (most < (acc : Int) + (q : Int)) = false := by simp; omega
                by_cases hr2 : 1099511627775 < acc + q
                · rw [if_pos (.inr hr2)] at hNM
                  have HNM := Lib.hid hNM
                  clear hNM
                  have hr2b : 1099511627775 < (acc : Int) + (q : Int) := by omega
                  go_wp2
                  rw [HNM.out]
                  refine bodyPost_ret (v := .tuple #[.agg #[.slice (some ad) n c, .int .i64 3], .int .i64 0]) (by simp [results, Try.results18, go_sem]) rfl ?_
                  exact ⟨_, rfl, (HV.grown0 (grown_alloc (grown_alloc (grown_refl _ _) _) _)), fun b hb => hb, grown_alloc (grown_alloc (grown_refl _ _) _) _⟩
                · rw [if_neg (by omega)] at hNM
                  have HNM := Lib.hid hNM
                  clear hNM
                  have hr2b : decide (1099511627775 < (acc : Int) + (q : Int)) = false := by simp; omega
                  have HDR := Lib.hid (HV.drop (n := k + 1) (by omega))
                  have HDE : Hid (c = k + 1 → l.drop (k + 1) = []) := fun h => List.drop_eq_nil_of_le (by rw [HN.out]; omega)
                  have HNE : Hid (c = k + 1 → n - (k + 1) = 0) := fun h => by omega
                  go_wp2
                  · rw [HNM.out]
                    refine bodyPost_ret (v := .tuple #[.agg #[.slice (some ad) (n - (k + 1)) 0, .int .i64 0], .int .i64 ((acc + q : Nat) : Int)]) (by simp [results, Try.results18, go_sem]) rfl ?_
                    refine ⟨_, rfl, ?_, fun b hb => by rw [← hb]; exact own_len _ _ _ _ _, grown_alloc (grown_alloc (grown_refl _ _) _) _⟩
                    rw [HNE.out ‹_›]
                    show Rd _ _ (bytesV (l.drop (k + 1)))
                    rw [HDE.out ‹_›]
                    exact Rd.empty _ _ _ (Nat.zero_le _)
                  · rw [HNM.out]
                    refine bodyPost_ret (v := .tuple #[.agg #[.slice (some (ad.add (k + 1))) (n - (k + 1)) (c - (k + 1)), .int .i64 0], .int .i64 ((acc + q : Nat) : Int)]) (by simp [results, Try.results18, go_sem]) rfl ?_
                    refine ⟨_, rfl, ?_, fun b hb => ?_, grown_alloc (grown_alloc (grown_refl _ _) _) _⟩
                    · show Rd _ _ (List.map byteV (l.drop (k + 1)))
                      rw [List.map_drop]
                      exact HDR.out.grown0 (grown_alloc (grown_alloc (grown_refl _ _) _) _)
                    · rw [← hb]
                      exact (own_map (some ad) (k + 1) _ _ _ _).symm
        · have hkn' : k = n := by omega
          have hd : l.drop k = [] := List.drop_eq_nil_of_le (by rw [HN.out]; omega)
          rw [hd, fnum_short h6] at hf
          have HNM : Hid (numOf l 0 most = (0, l, 2)) := by
            show _ = _
            unfold numOf
            rw [if_pos rfl, ← hf]
            rfl
          clear hf hd
          have hne : ((k : Int) == (n : Int)) = true := by simp; omega
          have HKN := Lib.hid hkn'
          clear hkn'
          go_wp2
          rw [HNM.out]
          refine bodyPost_ret (v := .tuple #[.agg #[.slice A n c, .int .i64 2], .int .i64 0]) (by simp [results, Try.results18, go_sem]) rfl ?_
          exact ⟨_, rfl, (HV.grown0 (grown_alloc (grown_alloc (grown_refl _ _) _) _)), fun b hb => hb, grown_alloc (grown_alloc (grown_refl _ _) _) _⟩
      · obtain rfl : k = 6 := by omega
        have hf2 : first l = (0, 0, 4) := by rw [← hf]; rfl
        have HNM : Hid (numOf l 0 most = (0, l, 4)) := by
          show _ = _
          unfold numOf
          rw [if_pos rfl, hf2]
          rfl
        clear hf hf2
        go_wp2
        rw [HNM.out]
        refine bodyPost_ret (v := .tuple #[.agg #[.slice A n c, .int .i64 4], .int .i64 0]) (by simp [results, Try.results18, go_sem]) rfl ?_
        exact ⟨_, rfl, (HV.grown0 (grown_alloc (grown_alloc (grown_refl _ _) _) _)), fun b hb => hb, grown_alloc (grown_alloc (grown_refl _ _) _) _⟩
  · have hN : numOf l x most = (0, l, x) := by unfold numOf; rw [if_neg hx]
    rw [hN]
    clear hN
    have hx1 : (x != 0) = true := by simpa using hx
    go_enter Try.func18, Try.ntmps18
    go_wp2
    refine bodyPost_ret (v := .tuple #[.agg #[.slice A l.length c, .int .i64 x], .int .i64 0]) (by simp [results, Try.results18, go_sem]) rfl ?_
    exact ⟨_, rfl, HV.grown0 (grown_alloc (grown_alloc (grown_refl _ _) _) _), fun b hb => hb, grown_alloc (grown_alloc (grown_refl _ _) _) _⟩
end Go.Proofs.Ytldambmhclgpoaa
