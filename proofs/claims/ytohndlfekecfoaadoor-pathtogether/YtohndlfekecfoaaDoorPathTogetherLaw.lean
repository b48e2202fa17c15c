/-
  The walk of PathTogether.
-/
import Derived.Test.YtohndlfekecfoaaDoorPtAwake
namespace Go.Proofs.YtohndlfekecfoaaDoor
set_option maxRecDepth 1000000
open Go.RowKit

theorem below_parts {s o : List UInt8} (h : belowB s o = true) : rightB s = true ∧ rightB o = true ∧ (parts o).isPrefixOf (parts s) = true := by
  rw [belowB, Bool.and_eq_true, Bool.and_eq_true] at h
  exact ⟨h.1.1, h.1.2, h.2⟩
theorem below_behind {s o : List UInt8} (h : belowB s o = true) : 0 ≤ cmpP s o := cmpL_behind (below_parts h).2.2
theorem below_between {s t b o : List UInt8} (h : belowB s o = true) (h2 : belowB t o = true) (hb : rightB b = true) (h3 : cmpP s b ≤ 0) (h4 : cmpP b t ≤ 0) : belowB b o = true := by
  rw [belowB, hb, (below_parts h).2.1, together (below_parts h).2.2 (below_parts h2).2.2 h3 h4]
  rfl

set_option maxHeartbeats 8000000 in
theorem pathTogether_walk (f a b c : ByteArray) (w : World) : Calls Tryd.prog 6 #[.string f, .string a, .string b, .string c] w (Awake w) := by
  by_cases hf : f.size ≤ 400
  · have df : decide ((400 : Int) < (f.size : Int)) = false := decide_eq_false (by omega)
    by_cases ha : a.size ≤ 400
    · have da : decide ((400 : Int) < (a.size : Int)) = false := decide_eq_false (by omega)
      by_cases hb : b.size ≤ 400
      · have db : decide ((400 : Int) < (b.size : Int)) = false := decide_eq_false (by omega)
        by_cases hc : c.size ≤ 400
        · have dc : decide ((400 : Int) < (c.size : Int)) = false := decide_eq_false (by omega)
          have H1 := Lib.hid (fun w' => refRight_any b w' (by omega))
          have H2 := Lib.hid (fun w' => below_any a f w' (by omega) (by omega))
          have H3 := Lib.hid (fun w' => below_any c f w' (by omega) (by omega))
          have H4 := Lib.hid (fun w' => compare_any a f w' (by omega) (by omega))
          have H5 := Lib.hid (fun w' => compare_any c f w' (by omega) (by omega))
          have H6 := Lib.hid (fun w' => compare_any a b w' (by omega) (by omega))
          have H7 := Lib.hid (fun w' => compare_any b c w' (by omega) (by omega))
          have H8 := Lib.hid (fun w' => below_any b f w' (by omega) (by omega))
          have hp := below_behind (s := a.data.toList) (o := f.data.toList)
          have hq := below_behind (s := c.data.toList) (o := f.data.toList)
          have hbt := below_between (s := a.data.toList) (t := c.data.toList) (b := b.data.toList) (o := f.data.toList)
          generalize cmpP a.data.toList f.data.toList = p at *
          generalize cmpP c.data.toList f.data.toList = q at *
          generalize cmpP a.data.toList b.data.toList = x at *
          generalize cmpP b.data.toList c.data.toList = y at *
          generalize belowB a.data.toList f.data.toList = u at *
          generalize belowB c.data.toList f.data.toList = v at *
          generalize belowB b.data.toList f.data.toList = t at *
          generalize rightB b.data.toList = r at *
          have HH := Lib.hid (And.intro hp (And.intro hq hbt))
          have G0 := Lib.hid (grown_refl w none)
          clear hp hq hbt hf ha hb hc
          go_enter Tryd.func6, Tryd.ntmps6
          go_wp2_with fail
          refine (H1.out _).mono ?_
          rintro e w1 ⟨rfl, hg⟩
          have G1 := Lib.hid (World.grownBy.trans G0.out hg)
          clear hg
          cases r
          · skip
            go_wp2_with fail
            refine (awake_any _).mono ?_
            rintro e w2 ⟨rfl, hg⟩
            have G2 := Lib.hid (World.grownBy.trans G1.out hg)
            clear hg
            go_wp2
            go_ret
            exact ⟨rfl, G2.out⟩
          · skip
            go_wp2_with fail
            refine (H2.out _).mono ?_
            rintro e w2 ⟨rfl, hg⟩
            have G2 := Lib.hid (World.grownBy.trans G1.out hg)
            clear hg
            cases u
            · skip
              go_wp2_with fail
              refine (awake_any _).mono ?_
              rintro e w3 ⟨rfl, hg⟩
              have G3 := Lib.hid (World.grownBy.trans G2.out hg)
              clear hg
              go_wp2
              go_ret
              exact ⟨rfl, G3.out⟩
            · skip
              go_wp2_with fail
              refine (H3.out _).mono ?_
              rintro e w3 ⟨rfl, hg⟩
              have G3 := Lib.hid (World.grownBy.trans G2.out hg)
              clear hg
              cases v
              · skip
                go_wp2_with fail
                refine (awake_any _).mono ?_
                rintro e w4 ⟨rfl, hg⟩
                have G4 := Lib.hid (World.grownBy.trans G3.out hg)
                clear hg
                go_wp2
                go_ret
                exact ⟨rfl, G4.out⟩
              · have dp : decide (p < 0) = false := decide_eq_false (by have := HH.out.1 (by trivial); omega)
                have dq : decide (q < 0) = false := decide_eq_false (by have := HH.out.2.1 (by trivial); omega)
                go_wp2_with fail
                refine (H4.out _).mono ?_
                rintro e w4 ⟨rfl, hg⟩
                have G4 := Lib.hid (World.grownBy.trans G3.out hg)
                clear hg
                go_wp2_with fail
                refine (H5.out _).mono ?_
                rintro e w5 ⟨rfl, hg⟩
                have G5 := Lib.hid (World.grownBy.trans G4.out hg)
                clear hg
                go_wp2_with fail
                refine (H6.out _).mono ?_
                rintro e w6 ⟨rfl, hg⟩
                have G6 := Lib.hid (World.grownBy.trans G5.out hg)
                clear hg
                by_cases hx : 0 < x
                · have dx : decide (0 < x) = true := decide_eq_true hx
                  clear hx
                  go_wp2_with fail
                  refine (awake_any _).mono ?_
                  rintro e w7 ⟨rfl, hg⟩
                  have G7 := Lib.hid (World.grownBy.trans G6.out hg)
                  clear hg
                  go_wp2
                  go_ret
                  exact ⟨rfl, G7.out⟩
                · have dx : decide (0 < x) = false := decide_eq_false hx
                  have HX := Lib.hid hx
                  clear hx
                  go_wp2_with fail
                  refine (H7.out _).mono ?_
                  rintro e w7 ⟨rfl, hg⟩
                  have G7 := Lib.hid (World.grownBy.trans G6.out hg)
                  clear hg
                  by_cases hy : 0 < y
                  · have dy : decide (0 < y) = true := decide_eq_true hy
                    clear hy
                    go_wp2_with fail
                    refine (awake_any _).mono ?_
                    rintro e w8 ⟨rfl, hg⟩
                    have G8 := Lib.hid (World.grownBy.trans G7.out hg)
                    clear hg
                    go_wp2
                    go_ret
                    exact ⟨rfl, G8.out⟩
                  · have dy : decide (0 < y) = false := decide_eq_false hy
                    have ht : t = true := HH.out.2.2 (by trivial) (by trivial) (by trivial) (by have := HX.out; omega) (by omega)
                    subst ht
                    clear hy
                    go_wp2_with fail
                    refine (H8.out _).mono ?_
                    rintro e w8 ⟨rfl, hg⟩
                    have G8 := Lib.hid (World.grownBy.trans G7.out hg)
                    clear hg
                    go_wp2_with fail
                    refine (awake_any _).mono ?_
                    rintro e w9 ⟨rfl, hg⟩
                    have G9 := Lib.hid (World.grownBy.trans G8.out hg)
                    clear hg
                    go_wp2
                    go_ret
                    exact ⟨rfl, G9.out⟩
        · have dc : decide ((400 : Int) < (c.size : Int)) = true := decide_eq_true (by omega)
          have HW := Lib.hid (awake_any w)
          go_enter Tryd.func6, Tryd.ntmps6
          go_wp2_with fail
          refine HW.out.mono ?_
          rintro e w1 ⟨rfl, hg⟩
          have HG := Lib.hid hg
          clear hg HW
          go_wp2
          go_ret
          exact ⟨rfl, HG.out⟩
      · have db : decide ((400 : Int) < (b.size : Int)) = true := decide_eq_true (by omega)
        have HW := Lib.hid (awake_any w)
        go_enter Tryd.func6, Tryd.ntmps6
        go_wp2_with fail
        refine HW.out.mono ?_
        rintro e w1 ⟨rfl, hg⟩
        have HG := Lib.hid hg
        clear hg HW
        go_wp2
        go_ret
        exact ⟨rfl, HG.out⟩
    · have da : decide ((400 : Int) < (a.size : Int)) = true := decide_eq_true (by omega)
      have HW := Lib.hid (awake_any w)
      go_enter Tryd.func6, Tryd.ntmps6
      go_wp2_with fail
      refine HW.out.mono ?_
      rintro e w1 ⟨rfl, hg⟩
      have HG := Lib.hid hg
      clear hg HW
      go_wp2
      go_ret
      exact ⟨rfl, HG.out⟩
  · have df : decide ((400 : Int) < (f.size : Int)) = true := decide_eq_true (by omega)
    have HW := Lib.hid (awake_any w)
    go_enter Tryd.func6, Tryd.ntmps6
    go_wp2_with fail
    refine HW.out.mono ?_
    rintro e w1 ⟨rfl, hg⟩
    have HG := Lib.hid hg
    clear hg HW
    go_wp2
    go_ret
    exact ⟨rfl, HG.out⟩
end Go.Proofs.YtohndlfekecfoaaDoor
