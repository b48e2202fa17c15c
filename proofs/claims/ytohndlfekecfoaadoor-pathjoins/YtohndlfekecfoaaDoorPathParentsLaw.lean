/-
  The walk of PathParents.
-/
import Derived.Test.YtohndlfekecfoaaDoorPtAwake
namespace Go.Proofs.YtohndlfekecfoaaDoor
set_option maxRecDepth 1000000
open Go.RowKit

theorem part_nil : partB [] = false := by decide
theorem right_all {s : List UInt8} (h : rightB s = true) : s.length ≤ 256 ∧ ∀ p ∈ parts s, partB p = true := by
  rw [rightB, Bool.and_eq_true, decide_eq_true_eq, List.all_eq_true] at h
  exact h
theorem right_of {s : List UInt8} (h : s.length ≤ 256) (h2 : ∀ p ∈ parts s, partB p = true) : rightB s = true := by
  rw [rightB, Bool.and_eq_true, decide_eq_true_eq, List.all_eq_true]
  exact ⟨h, h2⟩
/-- What a path's parent is. -/
theorem parent_cases {s : List UInt8} (h : rightB s = true) : (parentB s = [] ∧ partsB s = [s]) ∨
    (parentB s ≠ [] ∧ rightB (parentB s) = true ∧ belowB s (parentB s) = true ∧ belowB (parentB s) s = false ∧ (partsB (parentB s)).length + 1 = (partsB s).length ∧ cmpP (parentB s) s = -1) := by
  obtain ⟨hl, ha⟩ := right_all h
  rcases last_parts s with ⟨_, hp⟩ | ⟨u, v, hs, hv, hp, hj⟩
  · refine .inl ⟨?_, ?_⟩
    · rw [parentB, if_pos h, hp]; rfl
    · rw [partsB, if_pos h, hp]
  · have hu : parentB s = u := by rw [parentB, if_pos h, hj]
    rw [hu]
    have hr : rightB u = true := right_of (by have := congrArg List.length hs; simp at this; omega) (fun p hm => ha p (by rw [hp]; simp [hm]))
    have hne : u ≠ [] := by
      rintro rfl
      have := ha [] (by rw [hp]; simp [parts])
      rw [part_nil] at this
      cases this
    refine .inr ⟨hne, hr, ?_, ?_, ?_, ?_⟩
    · rw [belowB, h, hr, hp]
      have : ∀ (x y : List (List UInt8)), x.isPrefixOf (x ++ y) = true := by
        intro x y
        induction x with
        | nil => simp
        | cons p x ih => simp [ih]
      rw [this]; rfl
    · rw [belowB, h, hr, hp, prefix_short _ _ (by simp)]; rfl
    · rw [partsB, partsB, if_pos h, if_pos hr, hp, List.length_append]; rfl
    · rw [cmpP, hp]
      exact cmpL_pre _ _ (by simp)

set_option maxHeartbeats 8000000 in
theorem pathParents_walk (s : ByteArray) (w : World) : Calls Tryd.prog 7 #[.string s] w (Awake w) := by
  by_cases hs : s.size ≤ 400
  · have ds : decide ((400 : Int) < (s.size : Int)) = false := decide_eq_false (by omega)
    have H1 := Lib.hid (fun w' => right_any s w' (by omega))
    have H2 := Lib.hid (fun w' => parent_any s w' (by omega))
    have H3 := Lib.hid (fun w' => parts_any s w' (by omega))
    have HPC := Lib.hid (parent_cases (s := s.data.toList))
    have hsz : (bts (parentB s.data.toList)).size < 1000000 := by
      rw [bts_size, parentB]
      split
      · have := join_len (parts s.data.toList) ((parts s.data.toList).length - 1)
        rw [join_parts, ← List.dropLast_eq_take, ← size_len] at this
        omega
      · simp
    have hpe : (bts (parentB s.data.toList)).toList = parentB s.data.toList := Lib.toList_data _
    have HS := Lib.hid (And.intro hsz hpe)
    clear hsz hpe
    generalize hP : parentB s.data.toList = P at *
    have H4 := Lib.hid (fun w' => (right_any (bts P) w' (by have := HS.out.1; omega) : Calls _ _ _ _ (Val (.bool (rightB P)) w')))
    have H5 := Lib.hid (fun w' => (below_any s (bts P) w' (by omega) (by have := HS.out.1; omega) : Calls _ _ _ _ (Val (.bool (belowB s.data.toList P)) w')))
    have H6 := Lib.hid (fun w' => (below_any (bts P) s w' (by have := HS.out.1; omega) (by omega) : Calls _ _ _ _ (Val (.bool (belowB P s.data.toList)) w')))
    have H7 := Lib.hid (fun w' => (parts_any (bts P) w' (by have := HS.out.1; omega)))
    have H8 := Lib.hid (fun w' => (compare_any (bts P) s w' (by have := HS.out.1; omega) (by omega) : Calls _ _ _ _ (Val (.int .i64 (cmpP P s.data.toList)) w')))
    clear hP
    have G0 := Lib.hid (grown_refl w none)
    go_enter Tryd.func7, Tryd.ntmps7
    go_wp2_with fail
    refine (H1.out _).mono ?_
    rintro e w1 ⟨rfl, hg⟩
    have G1 := Lib.hid (World.grownBy.trans G0.out hg)
    clear hg
    cases hr : rightB s.data.toList
    · skip
      go_wp2_with fail
      refine (awake_any _).mono ?_
      rintro e w2 ⟨rfl, hg⟩
      have G2 := Lib.hid (World.grownBy.trans G1.out hg)
      clear hg
      go_wp2
      go_ret
      exact ⟨rfl, G2.out⟩
    · have HC := Lib.hid (HPC.out hr)
      clear hr HPC
      go_wp2_with fail
      refine (H2.out _).mono ?_
      rintro e w2 ⟨rfl, hg⟩
      have G2 := Lib.hid (World.grownBy.trans G1.out hg)
      clear hg
      rcases HC.out with ⟨hp0, hp1⟩ | ⟨hp0, hp1, hp2, hp3, hp4, hp5⟩
      · have e0 : (bts P).toList.isEmpty = true := by rw [HS.out.2, hp0]; rfl
        have e1 : ((bts P).toList == []) = true := by rw [HS.out.2, hp0]; rfl
        have hlen : (partsB s.data.toList).length = 1 := by rw [hp1]; rfl
        clear HC hp0 hp1
        go_wp2_with fail
        refine (H3.out _).mono ?_
        rintro e w3 ⟨v3, rfl, hr3, hg, _⟩
        have G3 := Lib.hid (World.grownBy.trans G2.out hg)
        clear hg
        obtain ⟨A3, c3, rfl⟩ := hr3.form
        rw [strsV_len]
        clear hr3
        have el : ((((partsB s.data.toList).length : Nat) : Int) == 1) = true := by rw [hlen]; rfl
        clear hlen
        generalize (partsB s.data.toList).length = n at *
        go_wp2_with fail
        refine (awake_any _).mono ?_
        rintro e w4 ⟨rfl, hg⟩
        have G4 := Lib.hid (World.grownBy.trans G3.out hg)
        clear hg
        go_wp2
        go_ret
        exact ⟨rfl, G4.out⟩
      · have e0 : (bts P).toList.isEmpty = false := by rw [HS.out.2]; cases P <;> simp_all
        have e1 : ((bts P).toList == []) = false := by rw [HS.out.2]; cases P <;> simp_all
        have HE := Lib.hid (And.intro hp1 (And.intro hp2 (And.intro hp3 hp5)))
        have HL4 := Lib.hid hp4
        have hb1 : (partsB s.data.toList).length ≤ 1000 := by
          rw [partsB]
          split
          · have := parts_size s; omega
          · simp
        clear HC hp0 hp1 hp2 hp3 hp4 hp5
        go_wp2_with fail
        refine (H4.out _).mono ?_
        rintro e w3 ⟨rfl, hg⟩
        have G3 := Lib.hid (World.grownBy.trans G2.out hg)
        clear hg
        rw [bts_data, HE.out.1]
        go_wp2_with fail
        refine (H5.out _).mono ?_
        rintro e w4 ⟨rfl, hg⟩
        have G4 := Lib.hid (World.grownBy.trans G3.out hg)
        clear hg
        rw [bts_data, HE.out.2.1]
        go_wp2_with fail
        refine (H6.out _).mono ?_
        rintro e w5 ⟨rfl, hg⟩
        have G5 := Lib.hid (World.grownBy.trans G4.out hg)
        clear hg
        rw [bts_data, HE.out.2.2.1]
        go_wp2_with fail
        refine (H7.out _).mono ?_
        rintro e w6 ⟨v6, rfl, hr6, hg, _⟩
        have G6 := Lib.hid (World.grownBy.trans G5.out hg)
        clear hg
        obtain ⟨A6, c6, rfl⟩ := hr6.form
        rw [strsV_len]
        clear hr6
        rw [bts_data]
        go_wp2_with fail
        refine (H3.out _).mono ?_
        rintro e w7 ⟨v7, rfl, hr7, hg, _⟩
        have G7 := Lib.hid (World.grownBy.trans G6.out hg)
        clear hg
        obtain ⟨A7, c7, rfl⟩ := hr7.form
        rw [strsV_len]
        clear hr7
        have hle := HL4.out
        generalize (partsB P).length = n1 at *
        generalize (partsB s.data.toList).length = n2 at *
        subst hle
        have hw64 : wrap64 ((n1 : Int) + 1) = (n1 : Int) + 1 := by unfold wrap64; omega
        clear hb1
        go_wp2_with fail
        refine (H8.out _).mono ?_
        rintro e w8 ⟨rfl, hg⟩
        have G8 := Lib.hid (World.grownBy.trans G7.out hg)
        clear hg
        rw [bts_data, HE.out.2.2.2]
        go_wp2_with fail
        refine (awake_any _).mono ?_
        rintro e w9 ⟨rfl, hg⟩
        have G9 := Lib.hid (World.grownBy.trans G8.out hg)
        clear hg
        go_wp2
        go_ret
        exact ⟨rfl, G9.out⟩
  · have ds : decide ((400 : Int) < (s.size : Int)) = true := decide_eq_true (by omega)
    have HW := Lib.hid (awake_any w)
    go_enter Tryd.func7, Tryd.ntmps7
    go_wp2_with fail
    refine HW.out.mono ?_
    rintro e w1 ⟨rfl, hg⟩
    have HG := Lib.hid hg
    clear hg HW
    go_wp2
    go_ret
    exact ⟨rfl, HG.out⟩
end Go.Proofs.YtohndlfekecfoaaDoor
