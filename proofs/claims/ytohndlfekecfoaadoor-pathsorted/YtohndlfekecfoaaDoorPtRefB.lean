/-
  The document's Below and Parent over this program.
-/
import Derived.Test.YtohndlfekecfoaaDoorPtRefC
namespace Go.Proofs.YtohndlfekecfoaaDoor
set_option maxRecDepth 1000000
open Go.RowKit

theorem take_next (a : List (List UInt8)) (k : Nat) (h : k < a.length) : a.take (k + 1) = a.take k ++ [a.getD k []] := by
  rw [List.take_add_one, List.getElem?_eq_getElem h]; simp [List.getElem?_eq_getElem h]
theorem prefix_take (x y : List (List UInt8)) (h : x.isPrefixOf y = true) : y.take x.length = x := by
  induction x generalizing y with
  | nil => simp
  | cons p x ih =>
    cases y with
    | nil => simp at h
    | cons q y =>
      simp only [List.isPrefixOf_cons_cons, Bool.and_eq_true, beq_iff_eq] at h
      rw [List.length_cons, List.take_succ_cons, ih y h.2, h.1]
theorem take_prefix (x y : List (List UInt8)) (h : y.take x.length = x) : x.isPrefixOf y = true := by
  induction x generalizing y with
  | nil => simp
  | cons p x ih =>
    cases y with
    | nil => simp at h
    | cons q y =>
      rw [List.length_cons, List.take_succ_cons] at h
      simp only [List.cons.injEq] at h
      simp [h.1, ih y h.2]
theorem prefix_not (x y : List (List UInt8)) (k : Nat) (hk : k < x.length) (h : y.getD k [] ≠ x.getD k []) : x.isPrefixOf y = false := by
  rw [← Bool.not_eq_true]
  intro hp
  have := prefix_take x y hp
  apply h
  have h2 := congrArg (fun l => l.getD k []) this
  simp only [List.getD_eq_getElem?_getD, List.getElem?_take, hk, if_true] at h2
  rw [List.getD_eq_getElem?_getD, List.getD_eq_getElem?_getD]
  exact h2
theorem prefix_short (x y : List (List UInt8)) (h : y.length < x.length) : x.isPrefixOf y = false := by
  rw [← Bool.not_eq_true]
  intro hp
  have := congrArg List.length (prefix_take x y hp)
  rw [List.length_take] at this
  omega

set_option maxHeartbeats 4000000 in
theorem refBelow_any (a b : ByteArray) (w : World) (ha : a.size < 1000000) (hb : b.size < 1000000) :
    Calls Tryd.prog 20 #[.string a, .string b] w (Val (.bool (belowB a.data.toList b.data.toList)) w) := by
  have HA := Lib.hid (refSplit_any a w ha)
  have HB := Lib.hid (fun w' => refSplit_any b w' hb)
  have HRA := Lib.hid (fun w' => refRight_any a w' ha)
  have HRB := Lib.hid (fun w' => refRight_any b w' hb)
  have hcp : belowB a.data.toList b.data.toList = (rightB a.data.toList && rightB b.data.toList && (parts b.data.toList).isPrefixOf (parts a.data.toList)) := rfl
  have na := parts_size a
  have nb := parts_size b
  have nea := parts_ne a.data.toList
  have neb := parts_ne b.data.toList
  generalize hX : parts a.data.toList = X at *
  generalize hY : parts b.data.toList = Y at *
  clear hX hY
  have hx : X.length < 10000000 := by omega
  have hy : Y.length < 10000000 := by omega
  clear na nb
  have HC := Lib.hid hcp
  clear hcp
  generalize belowB a.data.toList b.data.toList = C at *
  go_enter Tryd.func20, Tryd.ntmps20
  go_wp2_with fail
  refine HA.out.mono ?_
  rintro e w1 ⟨v1, rfl, ho1, hg1⟩
  obtain ⟨g1, c1, rfl, _⟩ := own_form ho1 (List.length_pos_iff.2 nea)
  have HR1 := Lib.hid (Rd.of_own ho1)
  have HG1 := Lib.hid hg1
  clear ho1 hg1 HA nea
  go_wp2_with fail
  refine (HB.out _).mono ?_
  rintro e w2 ⟨v2, rfl, ho2, hg2⟩
  obtain ⟨g2, c2, rfl, _⟩ := own_form ho2 (List.length_pos_iff.2 neb)
  have HR2 := Lib.hid (Rd.of_own ho2)
  have HR1' := Lib.hid (HR1.out.grown0 hg2)
  have HG2 := Lib.hid (World.grownBy.trans HG1.out hg2)
  clear ho2 hg2 HB neb HR1 HG1
  go_wp2_with fail
  refine (HRA.out _).mono ?_
  rintro e w3 ⟨rfl, hg3⟩
  have HR3 := Lib.hid (And.intro (HR1'.out.grown0 hg3) (HR2.out.grown0 hg3))
  have HG3 := Lib.hid (World.grownBy.trans HG2.out hg3)
  clear hg3 HR1' HR2 HG2
  cases hr : rightB a.data.toList
  · go_wp2
    go_ret
    exact ⟨by rw [HC.out, hr]; rfl, HG3.out⟩
  · go_wp2_with fail
    refine (HRB.out _).mono ?_
    rintro e w4 ⟨rfl, hg4⟩
    have HR4 := Lib.hid (And.intro (HR3.out.1.grown0 hg4) (HR3.out.2.grown0 hg4))
    have HG4 := Lib.hid (World.grownBy.trans HG3.out hg4)
    clear hg4 HR3 HG3
    cases hr2 : rightB b.data.toList
    · go_wp2
      go_ret
      exact ⟨by rw [HC.out, hr, hr2]; rfl, HG4.out⟩
    · have HC2 := Lib.hid (show C = Y.isPrefixOf X by rw [HC.out, hr, hr2]; rfl)
      clear HC
      by_cases hl : X.length < Y.length
      · have f1 : decide ((X.length : Int) < (Y.length : Int)) = true := decide_eq_true (by omega)
        have HP := Lib.hid (prefix_short Y X hl)
        go_wp2
        go_ret
        exact ⟨by rw [HC2.out, HP.out]; rfl, HG4.out⟩
      · have f1 : decide ((X.length : Int) < (Y.length : Int)) = false := decide_eq_false (by omega)
        go_wp2
        go_loopw [7] (fun i W => ∃ k : Nat, i = .int .i64 k ∧ k ≤ Y.length ∧ X.take k = Y.take k ∧ w4.grownBy W none) (fun i _ => Y.length - (intOf i).toNat)
        case atStart => exact ⟨0, rfl, Nat.zero_le _, by simp, grown_refl _ _⟩
        case round =>
          obtain ⟨k, rfl, hk, htk, hg⟩ := hrel
          have HT := Lib.hid htk
          have HG := Lib.hid hg
          have HGA := Lib.hid (World.grownBy.trans HG4.out hg)
          clear htk hg
          by_cases h2 : k < Y.length
          · have h1 : k < X.length := by omega
            have d1 : decide ((k : Int) < (Y.length : Int)) = true := by simp; omega
            have x1 := row_cell (HR4.out.1.grown0 HG.out) h1
            have x2 := row_cell (HR4.out.2.grown0 HG.out) h2
            have hse := str_eq (bts (X.getD k [])) (bts (Y.getD k []))
            rw [bts_data, bts_data] at hse
            have HN := Lib.hid (And.intro (take_next X k h1) (take_next Y k h2))
            have HO := Lib.hid (prefix_not Y X k h2)
            generalize X.getD k [] = p at *
            generalize Y.getD k [] = q at *
            by_cases hpq : p = q
            · have e1 : ((bts p).toList == (bts q).toList) = true := by rw [hse]; exact decide_eq_true hpq
              have HE := Lib.hid (show X.take (k + 1) = Y.take (k + 1) by rw [HN.out.1, HN.out.2, HT.out, hpq])
              clear hse hpq
              go_wp2
              go_quiet (fail)
              go_wp2
              go_roundw
              case rel => exact ⟨k + 1, by go_num, h2, HE.out, grown_drewN HG.out _⟩
              case measure =>
                simp [intOf]
                omega
            · have e1 : ((bts p).toList == (bts q).toList) = false := by rw [hse]; exact decide_eq_false hpq
              have HE := Lib.hid (HO.out hpq)
              clear hse hpq
              go_wp2
              go_quiet (fail)
              go_wp2
              go_ret
              exact ⟨by rw [HC2.out, HE.out]; rfl, grown_drewN HGA.out _⟩
          · have d1 : decide ((k : Int) < (Y.length : Int)) = false := by simp; omega
            have HE := Lib.hid (take_prefix Y X (by have := HT.out; rw [show k = Y.length by omega, List.take_length] at this; exact this))
            go_wp2
            go_ret
            exact ⟨by rw [HC2.out, HE.out]; rfl, HGA.out⟩

theorem join_take (l : List (List UInt8)) (k : Nat) (h : k + 1 < l.length) : join (l.take (k + 1)) ++ [47] ++ l.getD (k + 1) [] = join (l.take (k + 1 + 1)) := by
  rw [take_next l (k + 1) h, join_snoc (by intro e; have := congrArg List.length e; rw [List.length_take, List.length_nil] at this; omega)]
  simp
theorem join_len (l : List (List UInt8)) (k : Nat) : (join (l.take k)).length ≤ (join l).length := by
  induction l generalizing k with
  | nil => simp
  | cons p l ih =>
    cases k with
    | zero => simp [join]
    | succ k =>
      rw [List.take_succ_cons]
      cases l with
      | nil => simp
      | cons q l =>
        cases k with
        | zero => simp [join]
        | succ k =>
          have := ih (k + 1)
          rw [join_cons p (l := (q :: l).take (k + 1)) (by simp), join_cons p (by simp)]
          simp only [List.length_append, List.length_cons]
          omega

set_option maxHeartbeats 4000000 in
theorem refParent_any (s : ByteArray) (w : World) (hs : s.size < 1000000) :
    Calls Tryd.prog 16 #[.string s] w (Val (.string (bts (parentB s.data.toList))) w) := by
  have HA := Lib.hid (refSplit_any s w hs)
  have HRA := Lib.hid (fun w' => refRight_any s w' hs)
  have na := parts_size s
  have nea := parts_ne s.data.toList
  have hjl : ∀ k, (bts (join ((parts s.data.toList).take k))).size < 1000000 := by
    intro k
    have := join_len (parts s.data.toList) k
    rw [join_parts, ← size_len] at this
    rw [bts_size]
    omega
  have hpl : ∀ k, (bts ((parts s.data.toList).getD k [])).size < 1000000 := by
    intro k
    rw [bts_size]
    by_cases hk : k < (parts s.data.toList).length
    · have := part_le s.data.toList ((parts s.data.toList).getD k []) (by simp [List.getElem?_eq_getElem hk])
      rw [← size_len] at this; omega
    · rw [List.getD_eq_getElem?_getD, List.getElem?_eq_none (by omega)]; simp
  have hcp : parentB s.data.toList = if rightB s.data.toList then join ((parts s.data.toList).take ((parts s.data.toList).length - 1)) else [] := by rw [parentB, List.dropLast_eq_take]
  generalize hX : parts s.data.toList = X at *
  clear hX
  have hx : X.length < 10000000 := by omega
  have hx0 : 0 < X.length := List.length_pos_iff.2 nea
  have HC := Lib.hid hcp
  have HJ := Lib.hid (And.intro hjl hpl)
  clear hcp na hjl hpl
  generalize parentB s.data.toList = C at *
  go_enter Tryd.func16, Tryd.ntmps16
  go_wp2_with fail
  refine HA.out.mono ?_
  rintro e w1 ⟨v1, rfl, ho1, hg1⟩
  obtain ⟨g1, c1, rfl, _⟩ := own_form ho1 (List.length_pos_iff.2 nea)
  have HR1 := Lib.hid (Rd.of_own ho1)
  have HG1 := Lib.hid hg1
  clear ho1 hg1 HA nea
  go_wp2_with fail
  refine (HRA.out _).mono ?_
  rintro e w2 ⟨rfl, hg2⟩
  have HR2 := Lib.hid (HR1.out.grown0 hg2)
  have HG2 := Lib.hid (World.grownBy.trans HG1.out hg2)
  clear hg2 HR1 HG1
  cases hr : rightB s.data.toList
  · go_wp2
    go_ret
    exact ⟨by rw [HC.out, hr]; rfl, HG2.out⟩
  · have HC2 := Lib.hid (show C = join (X.take (X.length - 1)) by rw [HC.out, hr]; rfl)
    clear HC
    by_cases h1 : X.length = 1
    · have e1 : ((X.length : Int) == 1) = true := by rw [h1]; rfl
      have HE := Lib.hid (show C = [] by rw [HC2.out, h1]; rfl)
      clear h1
      go_wp2
      go_ret
      exact ⟨by rw [HE.out]; rfl, HG2.out⟩
    · have e1 : ((X.length : Int) == 1) = false := beq_eq_false_iff_ne.2 (by omega)
      have x0 := row_cell HR2.out hx0
      have hj0 : bts (X.getD 0 []) = bts (join (X.take 1)) := by
        cases X with
        | nil => simp at hx0
        | cons p X => rfl
      rw [hj0] at x0
      have hx1 : 1 < X.length := by omega
      clear hj0 h1
      go_wp2
      go_loopw [4, 5] (fun o i W => ∃ k : Nat, i = .int .i64 ((k : Int) + 1) ∧ k + 1 < X.length ∧ o = .string (bts (join (X.take (k + 1)))) ∧ W = w2) (fun _ i _ => X.length - (intOf i).toNat)
      case atStart => exact ⟨0, by go_num, hx1, rfl, rfl⟩
      case round =>
        obtain ⟨k, rfl, hk, rfl, rfl⟩ := hrel
        have hj1 := HJ.out.1 (k + 1)
        have hj2 := HJ.out.2 (k + 1)
        by_cases h2 : k + 1 + 1 < X.length
        · have d1 : decide ((k : Int) + 1 + 1 < (X.length : Int)) = true := decide_eq_true (by omega)
          have x1 := row_cell HR2.out (k := k + 1) (by omega)
          have hjt := join_take X k (by omega)
          have HN := Lib.hid (show bts (join (X.take (k + 1))) ++ ⟨#[47]⟩ ++ bts (X.getD (k + 1) []) = bts (join (X.take (k + 1 + 1))) by
            rw [show (⟨#[47]⟩ : ByteArray) = bts [47] from rfl, bts_app, bts_app, hjt])
          clear hjt
          generalize X.getD (k + 1) [] = p at *
          generalize hJ : join (X.take (k + 1)) = J at *
          go_wp2
          go_roundw
          case rel => exact ⟨k + 1, by go_num, h2, by rw [HN.out], trivial⟩
          case measure =>
            simp [intOf]
            omega
        · have d1 : decide ((k : Int) + 1 + 1 < (X.length : Int)) = false := decide_eq_false (by omega)
          have HE := Lib.hid (show C = join (X.take (k + 1)) by rw [HC2.out, show X.length - 1 = k + 1 by omega])
          generalize join (X.take (k + 1)) = J at *
          go_wp2
          go_ret
          exact ⟨by rw [HE.out]; rfl, HG2.out⟩
end Go.Proofs.YtohndlfekecfoaaDoor
