/-
  The walk of PathTells.
-/
import Derived.Test.YtohndlfekecfoaaDoorPtAwake
namespace Go.Proofs.YtohndlfekecfoaaDoor
set_option maxRecDepth 1000000
open Go.RowKit

set_option maxHeartbeats 8000000 in
theorem pathTells_walk (s : ByteArray) (w : World) : Calls Tryd.prog 3 #[.string s] w (Awake w) := by
  by_cases hs : s.size ≤ 400
  · have d0 : decide ((400 : Int) < (s.size : Int)) = false := decide_eq_false (by omega)
    have HP := Lib.hid (parts_any s w (by omega))
    have H1 := Lib.hid (fun w' => refRight_any s w' (by omega))
    have H2 := Lib.hid (fun w' => refSplit_any s w' (by omega))
    have H3 := Lib.hid (fun w' => right_any s w' (by omega))
    have H4 := Lib.hid (fun w' => parent_any s w' (by omega))
    have H5 := Lib.hid (fun w' => refParent_any s w' (by omega))
    have HPB := Lib.hid (show partsB s.data.toList = if rightB s.data.toList then parts s.data.toList else [] from rfl)
    have hpl := parts_size s
    go_enter Tryd.func3, Tryd.ntmps3
    go_wp2_with fail
    refine HP.out.mono ?_
    rintro e w1 ⟨v1, rfl, hr1, hg1, _⟩
    obtain ⟨A1, c1, rfl⟩ := hr1.form
    rw [strsV_len] at hr1 ⊢
    have HR1 := Lib.hid hr1
    have HG1 := Lib.hid hg1
    clear hr1 hg1 HP
    go_wp2_with fail
    refine (H1.out _).mono ?_
    rintro e w2 ⟨rfl, hg2⟩
    have HR2 := Lib.hid (HR1.out.grown0 hg2)
    have HG2 := Lib.hid (World.grownBy.trans HG1.out hg2)
    clear hg2 HR1 HG1
    cases hr : rightB s.data.toList
    case' false =>
      have hL : partsB s.data.toList = [] := by rw [HPB.out, hr]; rfl
      rw [hL] at HR2 ⊢
      have hv : (Value.slice A1 ([] : List (List UInt8)).length c1) = .slice A1 0 c1 := rfl
      obtain ⟨L, hLL⟩ : ∃ L : List (List UInt8), L = [] := ⟨_, rfl⟩
      have HX := Lib.hid (And.intro (show Rd w2 (.slice A1 L.length c1) (strsV L) by rw [hLL]; exact HR2.out) (And.intro (show Rd w2 (.slice none 0 0) (strsV L) by rw [hLL]; exact Rd.nil _) HG2.out))
      clear HPB HR2 HG2 hpl hL hv
      go_wp2
      go_loopw [23] (fun i W => i = .int .i64 0 ∧ w2.grownBy W none) (fun i _ => 0)
      case atStart => exact ⟨rfl, grown_refl _ _⟩
      case round =>
        obtain ⟨rfl, hg⟩ := hrel
        have HGA := Lib.hid (World.grownBy.trans HX.out.2.2 hg)
        clear hg
        go_wp2_with fail
        refine (H3.out _).mono ?_
        rintro e w4 ⟨rfl, hg⟩
        have G4 := Lib.hid (World.grownBy.trans HGA.out hg)
        clear hg H3
        go_wp2_with fail
        refine (H1.out _).mono ?_
        rintro e w5 ⟨rfl, hg⟩
        have G5 := Lib.hid (World.grownBy.trans G4.out hg)
        clear hg H1 G4
        go_wp2_with fail
        refine (H4.out _).mono ?_
        rintro e w6 ⟨rfl, hg⟩
        have G6 := Lib.hid (World.grownBy.trans G5.out hg)
        clear hg H4 G5
        go_wp2_with fail
        refine (H5.out _).mono ?_
        rintro e w7 ⟨rfl, hg⟩
        have G7 := Lib.hid (World.grownBy.trans G6.out hg)
        clear hg H5 G6
        go_wp2_with fail
        refine (awake_any _).mono ?_
        rintro e w8 ⟨rfl, hg⟩
        have G8 := Lib.hid (World.grownBy.trans G7.out hg)
        clear hg G7
        go_wp2
        go_ret
        exact ⟨rfl, G8.out⟩
    case' true =>
      have hL : partsB s.data.toList = parts s.data.toList := by rw [HPB.out, hr]; rfl
      rw [hL] at HR2 ⊢
      have hne := parts_ne s.data.toList
      clear HPB hL
      go_wp2_with fail
      refine (H2.out _).mono ?_
      rintro e w3 ⟨v2, rfl, ho2, hg3⟩
      obtain ⟨g2, c2, rfl, _⟩ := own_form ho2 (List.length_pos_iff.2 hne)
      generalize parts s.data.toList = L at *
      have hll : L.length < 1000000 := by omega
      have HX := Lib.hid (And.intro (HR2.out.grown0 hg3) (And.intro (Rd.of_own ho2) (World.grownBy.trans HG2.out hg3)))
      clear HR2 HG2 ho2 hg3 hpl hne H2
      go_wp2
      go_loopw [23] (fun i W => ∃ k : Nat, i = .int .i64 k ∧ k ≤ L.length ∧ w3.grownBy W none) (fun i _ => L.length - (intOf i).toNat)
      case atStart => exact ⟨0, rfl, Nat.zero_le _, grown_refl _ _⟩
      case round =>
        obtain ⟨k, rfl, hk, hg⟩ := hrel
        have HG := Lib.hid hg
        have HGA := Lib.hid (World.grownBy.trans HX.out.2.2 hg)
        clear hg
        by_cases h2 : k < L.length
        · have d1 : decide ((k : Int) < (L.length : Int)) = true := by simp; omega
          obtain ⟨a1, u1, rfl, hu1, hc1⟩ := (HX.out.1.grown0 HG.out).cellAt (k := k) h2
          have hc2 := row_cell (HX.out.2.1.grown0 HG.out) h2
          obtain ⟨_, rfl⟩ := strs_at L hu1
          clear hu1
          generalize L.getD k [] = p at *
          go_wp2
          go_quiet (fail)
          go_wp2
          go_roundw
          case rel => exact ⟨k + 1, by go_num, h2, grown_drewN HG.out _⟩
          case measure =>
            simp [intOf]
            omega
        · have d1 : decide ((k : Int) < (L.length : Int)) = false := by simp; omega
          go_wp2_with fail
          refine (H3.out _).mono ?_
          rintro e w4 ⟨rfl, hg⟩
          have G4 := Lib.hid (World.grownBy.trans HGA.out hg)
          clear hg H3
          go_wp2_with fail
          refine (H1.out _).mono ?_
          rintro e w5 ⟨rfl, hg⟩
          have G5 := Lib.hid (World.grownBy.trans G4.out hg)
          clear hg H1 G4
          go_wp2_with fail
          refine (H4.out _).mono ?_
          rintro e w6 ⟨rfl, hg⟩
          have G6 := Lib.hid (World.grownBy.trans G5.out hg)
          clear hg H4 G5
          go_wp2_with fail
          refine (H5.out _).mono ?_
          rintro e w7 ⟨rfl, hg⟩
          have G7 := Lib.hid (World.grownBy.trans G6.out hg)
          clear hg H5 G6
          go_wp2_with fail
          refine (awake_any _).mono ?_
          rintro e w8 ⟨rfl, hg⟩
          have G8 := Lib.hid (World.grownBy.trans G7.out hg)
          clear hg G7
          go_wp2
          go_ret
          exact ⟨rfl, G8.out⟩
  · have d0 : decide ((400 : Int) < (s.size : Int)) = true := decide_eq_true (by omega)
    have HW := Lib.hid (awake_any w)
    go_enter Tryd.func3, Tryd.ntmps3
    go_wp2_with fail
    refine HW.out.mono ?_
    rintro e w1 ⟨rfl, hg⟩
    have HG := Lib.hid hg
    clear hg HW
    go_wp2
    go_ret
    exact ⟨rfl, HG.out⟩
end Go.Proofs.YtohndlfekecfoaaDoor
