/-
  The law MatchParses, walked.
-/
import Derived.Test.YtbpnkcjaekbcdaaMatchAwake
import Derived.Test.YtbpnkcjaekbcdaaRefParse
namespace Go.Proofs.Ytbpnkcjaekbcdaa
open Go.RowKit

theorem parse_len (b : List UInt8) (win : Int) : (parse b win).length ≤ b.length := by
  have h : ∀ f p, p ≤ b.length → (parseFrom b win.toNat f p).length + p ≤ b.length := by
    intro f
    induction f with
    | zero => intro p hp; simp [parseFrom]; exact hp
    | succ f ih =>
      intro p hp
      rw [parseFrom]
      split
      · rename_i hlt
        obtain ⟨m, e1, e2, e3⟩ := tokAt_bound b win.toNat p hlt
        have := ih (p + m) e3
        rw [e1, Int.toNat_natCast, List.length_cons]
        omega
      · simp; exact hp
  unfold parse
  split
  · exact h b.length 0 (Nat.zero_le _)
  · simp

set_option maxHeartbeats 4000000 in
theorem matchParses_walk (A : Option Addr) (n c : Nat) (b : List UInt8) (win : Int) (w : World) (hb : Rd w (.slice A n c) (bytesV b)) :
    Calls Try.prog 3 #[.slice A n c, .int .i64 win] w (Awake w) := by
  have hbn : b.length = n := by have := hb.len.1; rwa [bytesV_len] at this
  by_cases h1 : 400 < n
  · have hd1 : decide (400 < (n : Int)) = true := by simp; omega
    clear hb hbn
    go_enter Try.func3, Try.ntmps3
    go_wp2_with (go_at_call 9; refine (awake_any _).mono ?_; rintro e w9 ⟨rfl, hg9⟩)
    go_ret
    exact ⟨rfl, hg9⟩
  have hd1 : decide (400 < (n : Int)) = false := by simp; omega
  have HPA := Lib.hid (parse_any _ b win w hb (by omega))
  by_cases hw : 1 ≤ win ∧ win ≤ 32768
  · have hd2 : decide (win < 1) = false := by simp; omega
    have hd3 : decide (32768 < win) = false := by simp; omega
    have HPB := Lib.hid (fun W (h : w.grownBy W none) => refParse_any _ b win W (hb.grown0 h) (by omega) hw)
    have hpl := parse_len b win
    have HPL := Lib.hid (show (parse b win).length ≤ 400 by omega)
    clear hb hbn hpl hw h1
    generalize parse b win = l at *
    have HGV := Lib.hid (fun (v : Value) (W : World) (h : RdT W v l) => given_any l v W h (by have := HPL.out; omega))
    go_enter Try.func3, Try.ntmps3
    go_wp2_with fail
    refine HPA.out.mono ?_
    rintro e w1 ⟨v1, rfl, hr1, hg1⟩
    have HPB1 := Lib.hid (HPB.out w1 hg1)
    have HR1 := Lib.hid hr1
    have HG1 := Lib.hid hg1
    clear hr1 hg1 HPA HPB
    go_wp2_with fail
    refine HPB1.out.mono ?_
    rintro e w2 ⟨v2, rfl, hr2, hg2⟩
    obtain ⟨A1, c1, rfl⟩ := HR1.out.form
    obtain ⟨A2, c2, rfl⟩ := hr2.form
    have HGV2 := Lib.hid (HGV.out _ w2 (HR1.out.grown0 hg2))
    have HR2 := Lib.hid hr2
    have HG2 := Lib.hid (HG1.out.trans hg2)
    clear hr2 hg2 HPB1 HGV HG1
    obtain ⟨m, hm⟩ : ∃ m, l.length = m := ⟨_, rfl⟩
    have HM := Lib.hid hm
    rw [hm] at HR1 HR2 HGV2 HPL ⊢
    have hmm := HPL.out
    clear hm
    go_wp2_with fail
    refine HGV2.out.mono ?_
    rintro e w3 ⟨v3, rfl, hr3, hg3⟩
    obtain ⟨A3, c3, rfl⟩ := hr3.form
    have HR3 := Lib.hid hr3
    have HR23 := Lib.hid (HR2.out.grown0 hg3)
    have HG3 := Lib.hid (HG2.out.trans hg3)
    clear hr3 hg3 HGV2 HR1 HR2 HG2
    rw [HM.out] at HR3 ⊢
    go_wp2
    go_loopw [39] (fun i W => ∃ k : Nat, k ≤ m ∧ i = .int .i64 k ∧ w3.grownBy W none) (fun i _ => m - (intOf i).toNat)
    case atStart => exact ⟨0, Nat.zero_le _, rfl, grown_refl _ _⟩
    case round =>
      obtain ⟨k, hk, rfl, hg⟩ := hrel
      by_cases hlt : k < m
      · have hkl : k < l.length := by rw [HM.out]; exact hlt
        obtain ⟨ad, t, rfl, ht, c0, c1', c2'⟩ := (HR3.out.grown0 hg).tok hkl
        obtain ⟨ad2, t2, rfl, ht2, z0, z1, z2⟩ := ((HR23.out.grown0 hg).grown0 (grown_alloc (grown_refl wr none) (.cells (tokC t).toArray 30))).tok hkl
        obtain rfl : t2 = t := by rw [← ht, ← ht2]
        have HG := Lib.hid hg
        have RN := Lib.hid (Row.new wr 30 (tokC t2))
        have HGA := Lib.hid (grown_alloc (grown_refl wr none) (.cells (tokC t2).toArray 30))
        clear hg ht ht2
        go_wp2
        have d0 := RN.out.cell (j := 0) rfl
        have d1 := RN.out.cell (j := 1) rfl
        have d2 := RN.out.cell (j := 2) rfl
        change Code.wp _ _ _ _ (wr.alloc (.cells (tokC t2).toArray 30))
        generalize wr.alloc (.cells (tokC t2).toArray 30) = W4 at *
        clear RN
        go_quiet (fail)
        go_wp2
        go_roundw
        case rel => exact ⟨k + 1, by omega, rfl, HG.out.trans (grown_drewN HGA.out _)⟩
        case measure => simp only [intOf]; omega
      · have hkn : k = m := by omega
        subst hkn
        have HG := Lib.hid (HG3.out.trans hg)
        clear hg
        go_wp2_with (go_at_call 9; refine (awake_any _).mono ?_; rintro e w9 ⟨rfl, hg9⟩)
        go_ret
        exact ⟨rfl, HG.out.trans hg9⟩
  · have hpe : parse b win = [] := by rw [parse, if_neg hw]
    rw [hpe] at HPA
    have hdd : decide (win < 1) = true ∨ decide (win < 1) = false ∧ decide (32768 < win) = true := by simp; omega
    clear hb hbn hw hpe h1
    rcases hdd with hd2 | ⟨hd2, hd3⟩
    all_goals
      go_enter Try.func3, Try.ntmps3
      go_wp2_with fail
      refine HPA.out.mono ?_
      rintro e w1 ⟨v1, rfl, hr1, hg1⟩
      obtain ⟨A1, c1, rfl⟩ := hr1.form
      have HG1 := Lib.hid hg1
      clear hr1 hg1 HPA
      go_wp2_with (go_at_call 9; refine (awake_any _).mono ?_; rintro e w9 ⟨rfl, hg9⟩)
      go_ret
      exact ⟨rfl, HG1.out.trans hg9⟩
end Go.Proofs.Ytbpnkcjaekbcdaa
