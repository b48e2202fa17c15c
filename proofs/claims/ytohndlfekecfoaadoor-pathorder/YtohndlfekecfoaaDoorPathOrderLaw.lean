/-
  The walk of PathOrder.
-/
import Derived.Test.YtohndlfekecfoaaDoorPtAwake
namespace Go.Proofs.YtohndlfekecfoaaDoor
set_option maxRecDepth 1000000
open Go.RowKit

theorem cmpP_eq (a b : ByteArray) : (a.toList == b.toList) = (cmpP a.data.toList b.data.toList == 0) := by
  rw [str_eq]
  by_cases h : a.data.toList = b.data.toList
  · rw [decide_eq_true h, (ordP.zero _ _).2 h]; rfl
  · rw [decide_eq_false h]
    exact (beq_eq_false_iff_ne.2 (fun e => h ((ordP.zero _ _).1 e))).symm

set_option maxHeartbeats 8000000 in
theorem pathOrder_walk (a b c : ByteArray) (w : World) : Calls Tryd.prog 4 #[.string a, .string b, .string c] w (Awake w) := by
  by_cases ha : a.size ≤ 400
  · have da : decide ((400 : Int) < (a.size : Int)) = false := decide_eq_false (by omega)
    by_cases hb : b.size ≤ 400
    · have db : decide ((400 : Int) < (b.size : Int)) = false := decide_eq_false (by omega)
      by_cases hc : c.size ≤ 400
      · have dc : decide ((400 : Int) < (c.size : Int)) = false := decide_eq_false (by omega)
        have H1 := Lib.hid (fun w' => compare_any a b w' (by omega) (by omega))
        have H2 := Lib.hid (fun w' => compare_any b c w' (by omega) (by omega))
        have H3 := Lib.hid (fun w' => compare_any a c w' (by omega) (by omega))
        have H4 := Lib.hid (fun w' => refCompare_any a b w' (by omega) (by omega))
        have H5 := Lib.hid (fun w' => compare_any b a w' (by omega) (by omega))
        have H6 := Lib.hid (fun w' => below_any a b w' (by omega) (by omega))
        have H7 := Lib.hid (fun w' => refBelow_any a b w' (by omega) (by omega))
        have hba := ordP.neg a.data.toList b.data.toList
        have heq := cmpP_eq a b
        have hle := ordP.le_trans a.data.toList b.data.toList c.data.toList
        have h1 := ordP.one a.data.toList b.data.toList
        generalize cmpP a.data.toList b.data.toList = x at *
        generalize cmpP b.data.toList c.data.toList = y at *
        generalize cmpP a.data.toList c.data.toList = z at *
        generalize cmpP b.data.toList a.data.toList = u at *
        generalize belowB a.data.toList b.data.toList = v at *
        have HLE := Lib.hid hle
        have G0 := Lib.hid (grown_refl w none)
        clear hle ha hb hc
        rcases h1 with rfl | rfl | rfl
        all_goals
          subst hba
          go_enter Tryd.func4, Tryd.ntmps4
          go_wp2_with fail
          refine (H1.out _).mono ?_
          rintro e w1 ⟨rfl, hg⟩
          have G1 := Lib.hid (World.grownBy.trans G0.out hg)
          clear hg
          go_wp2_with fail
          refine (H2.out _).mono ?_
          rintro e w2 ⟨rfl, hg⟩
          have G2 := Lib.hid (World.grownBy.trans G1.out hg)
          clear hg
          go_wp2_with fail
          refine (H3.out _).mono ?_
          rintro e w3 ⟨rfl, hg⟩
          have G3 := Lib.hid (World.grownBy.trans G2.out hg)
          clear hg
          go_wp2_with fail
          refine (H4.out _).mono ?_
          rintro e w4 ⟨rfl, hg⟩
          have G4 := Lib.hid (World.grownBy.trans G3.out hg)
          clear hg
          go_wp2_with fail
          refine (H5.out _).mono ?_
          rintro e w5 ⟨rfl, hg⟩
          have G5 := Lib.hid (World.grownBy.trans G4.out hg)
          clear hg
          skip
        · by_cases hy : 0 < y
          · have dy : decide ((0 : Int) < y) = true := decide_eq_true hy
            clear hy
            go_wp2_with fail
            refine (H6.out _).mono ?_
            rintro e w6 ⟨rfl, hg⟩
            have G6 := Lib.hid (World.grownBy.trans G5.out hg)
            clear hg
            go_wp2_with fail
            refine (H7.out _).mono ?_
            rintro e w7 ⟨rfl, hg⟩
            have G7 := Lib.hid (World.grownBy.trans G6.out hg)
            clear hg
            cases v
            all_goals
              go_wp2_with fail
              refine (awake_any _).mono ?_
              rintro e w8 ⟨rfl, hg⟩
              have G8 := Lib.hid (World.grownBy.trans G7.out hg)
              clear hg
              go_wp2
              go_ret
              exact ⟨rfl, G8.out⟩
          · have dy : decide ((0 : Int) < y) = false := decide_eq_false hy
            have dz : decide (z ≤ 0) = true := decide_eq_true (HLE.out (by decide) (by omega))
            clear hy
            go_wp2_with fail
            refine (H6.out _).mono ?_
            rintro e w6 ⟨rfl, hg⟩
            have G6 := Lib.hid (World.grownBy.trans G5.out hg)
            clear hg
            go_wp2_with fail
            refine (H7.out _).mono ?_
            rintro e w7 ⟨rfl, hg⟩
            have G7 := Lib.hid (World.grownBy.trans G6.out hg)
            clear hg
            cases v
            all_goals
              go_wp2_with fail
              refine (awake_any _).mono ?_
              rintro e w8 ⟨rfl, hg⟩
              have G8 := Lib.hid (World.grownBy.trans G7.out hg)
              clear hg
              go_wp2
              go_ret
              exact ⟨rfl, G8.out⟩
        · by_cases hy : 0 < y
          · have dy : decide ((0 : Int) < y) = true := decide_eq_true hy
            clear hy
            go_wp2_with fail
            refine (H6.out _).mono ?_
            rintro e w6 ⟨rfl, hg⟩
            have G6 := Lib.hid (World.grownBy.trans G5.out hg)
            clear hg
            go_wp2_with fail
            refine (H7.out _).mono ?_
            rintro e w7 ⟨rfl, hg⟩
            have G7 := Lib.hid (World.grownBy.trans G6.out hg)
            clear hg
            cases v
            all_goals
              go_wp2_with fail
              refine (awake_any _).mono ?_
              rintro e w8 ⟨rfl, hg⟩
              have G8 := Lib.hid (World.grownBy.trans G7.out hg)
              clear hg
              go_wp2
              go_ret
              exact ⟨rfl, G8.out⟩
          · have dy : decide ((0 : Int) < y) = false := decide_eq_false hy
            have dz : decide (z ≤ 0) = true := decide_eq_true (HLE.out (by decide) (by omega))
            clear hy
            go_wp2_with fail
            refine (H6.out _).mono ?_
            rintro e w6 ⟨rfl, hg⟩
            have G6 := Lib.hid (World.grownBy.trans G5.out hg)
            clear hg
            go_wp2_with fail
            refine (H7.out _).mono ?_
            rintro e w7 ⟨rfl, hg⟩
            have G7 := Lib.hid (World.grownBy.trans G6.out hg)
            clear hg
            cases v
            all_goals
              go_wp2_with fail
              refine (awake_any _).mono ?_
              rintro e w8 ⟨rfl, hg⟩
              have G8 := Lib.hid (World.grownBy.trans G7.out hg)
              clear hg
              go_wp2
              go_ret
              exact ⟨rfl, G8.out⟩
        · skip
          go_wp2_with fail
          refine (H6.out _).mono ?_
          rintro e w6 ⟨rfl, hg⟩
          have G6 := Lib.hid (World.grownBy.trans G5.out hg)
          clear hg
          go_wp2_with fail
          refine (H7.out _).mono ?_
          rintro e w7 ⟨rfl, hg⟩
          have G7 := Lib.hid (World.grownBy.trans G6.out hg)
          clear hg
          cases v
          all_goals
            go_wp2_with fail
            refine (awake_any _).mono ?_
            rintro e w8 ⟨rfl, hg⟩
            have G8 := Lib.hid (World.grownBy.trans G7.out hg)
            clear hg
            go_wp2
            go_ret
            exact ⟨rfl, G8.out⟩
      · have dc : decide ((400 : Int) < (c.size : Int)) = true := decide_eq_true (by omega)
        have HW := Lib.hid (awake_any w)
        go_enter Tryd.func4, Tryd.ntmps4
        go_wp2_with fail
        refine HW.out.mono ?_
        rintro e w1 ⟨rfl, hg⟩
        have HG := Lib.hid hg
        clear hg HW
        go_wp2
        go_ret
        exact ⟨rfl, HG.out⟩
    · have db : decide ((400 : Int) < (b.size : Int)) = true := decide_eq_true (by omega)
      have HW := Lib.hid (awake_any w)
      go_enter Tryd.func4, Tryd.ntmps4
      go_wp2_with fail
      refine HW.out.mono ?_
      rintro e w1 ⟨rfl, hg⟩
      have HG := Lib.hid hg
      clear hg HW
      go_wp2
      go_ret
      exact ⟨rfl, HG.out⟩
  · have da : decide ((400 : Int) < (a.size : Int)) = true := decide_eq_true (by omega)
    have HW := Lib.hid (awake_any w)
    go_enter Tryd.func4, Tryd.ntmps4
    go_wp2_with fail
    refine HW.out.mono ?_
    rintro e w1 ⟨rfl, hg⟩
    have HG := Lib.hid hg
    clear hg HW
    go_wp2
    go_ret
    exact ⟨rfl, HG.out⟩
end Go.Proofs.YtohndlfekecfoaaDoor
