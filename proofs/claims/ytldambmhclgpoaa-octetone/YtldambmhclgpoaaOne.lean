/-
  The walk of the law OctetOne.
-/
import Derived.Test.YtldambmhclgpoaaAwake
import Derived.Test.YtldambmhclgpoaaEnc
import Derived.StillTailTactics
namespace Go.Proofs.Ytldambmhclgpoaa
open Go.RowKit

theorem enc_norm (n : Nat) (h : n ≤ 1099511627775) : enc (norm (n : Int)) = enc n := by
  unfold norm
  rw [if_neg (by omega)]
  simp

set_option maxHeartbeats 1000000 in
theorem one_walk (v : Value) (b : List UInt8) (w : World) (hv : Rd w v (bytesV b)) :
    Calls Try.prog 6 #[v] w (Awake w) := by
  have HV := hv
  obtain ⟨A, c, rfl⟩ := hv.form
  have hbl := bytesV_len b
  generalize hn : (bytesV b).length = n at *
  clear hv hn
  by_cases h20 : 20 < n
  · go_enter Try.func6, Try.ntmps6
    go_wp2_with fail
    refine (awake_any _).mono ?_
    rintro e w1 ⟨rfl, hg1⟩
    go_wp2
    go_ret
    exact ⟨rfl, hg1⟩
  · have HW := Lib.hid (new_any (.slice A n c) b w HV (by omega))
    have HBL := Lib.hid hbl
    clear hbl
    go_enter Try.func6, Try.ntmps6
    go_wp2_with fail
    refine HW.out.mono ?_
    rintro e w1 ⟨g, rfl, hr1, hl1, hg1⟩
    have HN := Lib.hid (rnum_at g b 0 1099511627775 w1 hr1 (by have := HBL.out; omega))
    go_wp2_with fail
    refine HN.out.mono ?_
    clear HN HW
    by_cases he : (first b).2.2 = 0 ∧ (first b).1 ≤ 1099511627775
    · have hnum : numOf b 0 1099511627775 = ((first b).1, b.drop (first b).2.1, 0) := by
        unfold numOf
        rw [if_pos rfl, if_pos he.1, if_neg (by omega)]
      rw [hnum]
      obtain ⟨hbk, hsz⟩ := first_back b he.1
      have hle := he.2
      have hen := enc_norm (first b).1 hle
      clear hnum he
      generalize (first b).1 = m at *
      generalize (first b).2.1 = s at *
      have HEN := Lib.hid hen
      have HBK := Lib.hid hbk
      clear hbk hen
      rintro e w2 ⟨rfl, hr2, hg2⟩
      have HE := Lib.hid (err_at g _ 0 w2 hr2)
      have HU := number_any (.slice none 0 0) [] m w2 (Rd.nil _) (by simp)
      rw [HEN.out, ← HBK.out, List.nil_append] at HU
      have HU0 := Lib.hid HU
      clear HU
      go_wp2_with (go_at_call 28; refine HE.out.mono ?_; rintro e w3 ⟨rfl, rfl⟩)
      refine HU0.out.mono ?_
      rintro e w3 ⟨v3, rfl, hr3, hg3, hf3⟩
      have hl3 : (bytesV (b.take s)).length = s := by rw [bytesV_len, List.length_take]; omega
      have HR3 := hr3
      obtain ⟨A3, c3, rfl⟩ := hr3.form
      rw [hl3] at HR3 ⊢
      clear hl3 hr3
      have hgA : w.grownBy w2 none := grown_new hg1 hg2 (fun b hb => by injection hb; omega)
      have hgB : w.grownBy w3.drew none := grown_drew (hgA.trans hg3)
      have hV4 : Rd w3.drew (.slice A n c) (bytesV b) := HV.grown0 hgB
      have hR4 : Rd w3.drew (.slice A3 s c3) (bytesV (b.take s)) := HR3
      have hr4 : Rdr w3.drew g (b.drop s) 0 := hr2.grown (grown_drew hg3) (fun _ h => by cases h)
      have HL4 := left_at g _ 0 w3.drew hr4
      have hld : leftOf (b.drop s) 0 = n - s := by
        unfold leftOf
        rw [if_pos rfl, List.length_drop, HBL.out]
      rw [hld] at HL4
      have hsn : s ≤ n := by rw [HBL.out]; exact hsz
      obtain ⟨_, hnc, hcm⟩ := hV4.len
      have hc63 : (c : Int) ≤ 9223372036854775807 := by simp only [maxLen] at hcm; omega
      have hs1 := run_str hR4
      have hs2 : (convert 22 9 (.slice A s c)).run Try.prog w3.drew = .ok (.string ⟨(b.take s).toArray⟩) w3.drew := by
        refine run_str ?_
        have e : bytesV (b.take s) = (bytesV b).take s := by simp [bytesV, List.map_take]
        rw [e]
        exact hV4.take hsn (by omega) (Nat.le_refl _)
      clear hV4 hR4 hr4 hld hcm
      have HL5 : Hid (Calls Try.prog 26 #[.pointer (some ⟨g, 0, none⟩)] w3.drew fun e w' => e = .returned (.int .i64 ((n - s : Nat) : Int)) ∧ w' = w3.drew) := HL4.mono fun _ _ ⟨a, b⟩ => ⟨a, b.symm⟩
      obtain ⟨d, hd⟩ : ∃ d, d = n - s := ⟨_, rfl⟩
      rw [← hd] at HL5
      have heq : (IntKind.i64.wrap ((s : Int) + (d : Int)) == (n : Int)) = true := by rw [beq_iff_eq, IntKind.wrap_i64]; omega
      have HD := Lib.hid hd
      have hsc : s ≤ c := by omega
      clear HL4 hd
      go_wp2_with fail
      refine wp_region_still_tail 19 (by kernel_rfl) (by kernel_rfl) ?_
      change wpStill _ _ w3.drew (fun a' => wpList _ _ _ _ a' w3.drew) _ _
      generalize w3.drew = w4 at *
      simp only [List.take_succ_cons, List.take_zero, List.drop_succ_cons, List.drop_zero]
      repeat still_step
      still_call HL5.out
      repeat still_step
      refine wpStill_nil ?_
      go_wp2_with (go_at_call 10; refine (awake_any _).mono ?_; rintro e w5 ⟨rfl, hg5⟩)
      go_ret
      exact ⟨rfl, hgB.trans hg5⟩
    · have hnum : ∃ x, numOf b 0 1099511627775 = (0, b, x) ∧ x ≠ 0 := by
        unfold numOf
        rw [if_pos rfl]
        by_cases h : (first b).2.2 = 0
        · rw [if_pos h, if_pos (by omega)]
          exact ⟨3, rfl, by omega⟩
        · rw [if_neg h]
          exact ⟨_, rfl, h⟩
      obtain ⟨x, hx, hx0⟩ := hnum
      rw [hx]
      clear hx he
      rintro e w2 ⟨rfl, hr2, hg2⟩
      have HE := Lib.hid (err_at g _ x w2 hr2)
      have HL := left_at g _ x w2 hr2
      rw [show leftOf b x = 0 by unfold leftOf; rw [if_neg hx0]] at HL
      have HL0 := Lib.hid HL
      clear HL
      have hx1 : (x != 0) = true := by simpa using hx0
      have hgA : w.grownBy w2 none := grown_new hg1 hg2 (fun b hb => by injection hb; omega)
      go_wp2_with (first | (go_at_call 28; refine HE.out.mono ?_; rintro e w3 ⟨rfl, rfl⟩) | (go_at_call 26; refine HL0.out.mono ?_; rintro e w3 ⟨rfl, rfl⟩) | (go_at_call 10; refine (awake_any _).mono ?_; rintro e w5 ⟨rfl, hg5⟩))
      go_ret
      exact ⟨rfl, hgA.trans hg5⟩
end Go.Proofs.Ytldambmhclgpoaa
