/-
  path.Parent, path.Below and path.Sorted over this program.
-/
import Derived.Test.YtohndlfekecfoaaDoorPtCmp
import Derived.Lib.LastIndexByte
namespace Go.Proofs.YtohndlfekecfoaaDoor
set_option maxRecDepth 1000000
open Go.RowKit

theorem bang_getD (s : ByteArray) (j : Nat) (hj : j < s.size) : ((s.data[j]!).toNat : Int) = ((s.data.toList.getD j 0).toNat : Int) := by
  have : j < s.data.toList.length := by rw [← size_len]; exact hj
  have h2 : j < s.data.size := hj
  rw [getElem!_pos s.data j h2, List.getD_eq_getElem?_getD, List.getElem?_eq_getElem this]
  simp
theorem parent_of (s : ByteArray) : (Lib.lastIndexByte s 47 = -1 ∧ parentB s.data.toList = []) ∨
    ∃ k : Nat, Lib.lastIndexByte s 47 = k ∧ k < s.size ∧ (rightB s.data.toList = true → bts (parentB s.data.toList) = s.extract 0 k) := by
  have hl := size_len s
  rcases Lib.lastIdx_spec s 47 s.size with ⟨h1, h2⟩ | ⟨k, hk, h1, h2, h3⟩
  · refine .inl ⟨h1, ?_⟩
    have hn : (47 : UInt8) ∉ s.data.toList := by
      intro hm
      obtain ⟨j, hj, he⟩ := List.getElem_of_mem hm
      have := h2 j (by omega)
      rw [bang_getD s j (by omega), List.getD_eq_getElem?_getD, List.getElem?_eq_getElem hj, he] at this
      exact this rfl
    unfold parentB
    rw [parts_none hn]
    split <;> rfl
  · refine .inr ⟨k, h1, hk, fun hr => ?_⟩
    have hkl : k < s.data.toList.length := by omega
    have hb : s.data.toList[k] = 47 := by
      rw [bang_getD s k hk, List.getD_eq_getElem?_getD, List.getElem?_eq_getElem hkl] at h2
      simp only [Option.getD_some] at h2
      exact UInt8.toNat_inj.1 (by show _ = 47; omega)
    have hn : (47 : UInt8) ∉ s.data.toList.drop (k + 1) := by
      intro hm
      obtain ⟨j, hj, he⟩ := List.getElem_of_mem hm
      rw [List.length_drop] at hj
      rw [List.getElem_drop] at he
      have := h3 (k + 1 + j) (by omega) (by omega)
      rw [bang_getD s _ (by omega), List.getD_eq_getElem?_getD, List.getElem?_eq_getElem (by omega), he] at this
      exact this rfl
    have hs : s.data.toList = s.data.toList.take k ++ 47 :: s.data.toList.drop (k + 1) := by
      rw [← hb, ← List.drop_eq_getElem_cons hkl, List.take_append_drop]
    refine of_data ?_
    rw [bts_data, Lib.extract_from_zero, parentB, if_pos hr]
    have hp : parts s.data.toList = parts (s.data.toList.take k) ++ [s.data.toList.drop (k + 1)] := by
      rw [← parts_none hn, ← parts_app, ← hs]
    rw [hp, List.dropLast_concat, join_parts]

set_option maxHeartbeats 1000000 in
theorem parent_any (s : ByteArray) (w : World) (hs : s.size < 1000000000) :
    Calls Tryd.prog 15 #[.string s] w (Val (.string (bts (parentB s.data.toList))) w) := by
  have HI := Lib.hid (sh_LastIndex s ⟨#[47]⟩ rfl (by omega) w)
  have H := Lib.hid (right_any s w hs)
  have HF := Lib.hid (show rightB s.data.toList = false → bts (parentB s.data.toList) = ⟨#[]⟩ from fun h => by unfold parentB; rw [h]; rfl)
  rcases parent_of s with ⟨h1, h2⟩ | ⟨k, h1, hk, h2⟩
  · have HE := Lib.hid (show bts (parentB s.data.toList) = ⟨#[]⟩ by rw [h2]; rfl)
    have H1 := Lib.hid h1
    clear h1 h2 hs
    go_enter Tryd.func15, Tryd.ntmps15
    go_wp2_with fail
    refine HI.out.mono ?_
    rintro e w1 ⟨rfl, rfl⟩
    rw [show Lib.lastIndexByte s ((((⟨#[47]⟩ : ByteArray)[0]'(by decide)).toNat : Nat) : Int) = -1 from H1.out]
    go_wp2
    go_ret
    exact ⟨by rw [HE.out]; rfl, grown_refl _ _⟩
  · have H2 := Lib.hid h2
    have H1 := Lib.hid h1
    have c1 : (0 : Int) ≤ (k : Int) := by omega
    have c2 : (k : Int) ≤ (s.size : Int) := by omega
    have d0 : decide ((k : Int) < 0) = false := by simp
    clear h1 h2 hs
    go_enter Tryd.func15, Tryd.ntmps15
    go_wp2_with fail
    refine HI.out.mono ?_
    rintro e w1 ⟨rfl, rfl⟩
    rw [show Lib.lastIndexByte s ((((⟨#[47]⟩ : ByteArray)[0]'(by decide)).toNat : Nat) : Int) = k from H1.out]
    go_wp2_with fail
    refine H.out.mono ?_
    rintro e w2 ⟨rfl, hg⟩
    have HG := Lib.hid hg
    clear hg H HI
    cases hr : rightB s.data.toList
    · go_wp2
      go_ret
      exact ⟨by rw [HF.out hr]; rfl, HG.out⟩
    · go_wp2
      go_ret
      exact ⟨by rw [H2.out hr]; rfl, HG.out⟩

theorem belowB_pre (s o : ByteArray) : belowB s.data.toList o.data.toList = (rightB s.data.toList && rightB o.data.toList && (o ++ ⟨#[47]⟩).data.toList.isPrefixOf (s ++ ⟨#[47]⟩).data.toList) := by
  rw [belowB, ← below_slash]
  simp
set_option maxHeartbeats 1000000 in
theorem below_any (s o : ByteArray) (w : World) (hs : s.size < 1000000000) (ho : o.size < 1000000000) :
    Calls Tryd.prog 19 #[.string s, .string o] w (Val (.bool (belowB s.data.toList o.data.toList)) w) := by
  have H1 := Lib.hid (right_any s w hs)
  have H2 := Lib.hid (fun w' => right_any o w' ho)
  have HB := Lib.hid (belowB_pre s o)
  have b1 : ((s.size : Int)) < 1000000000 := by omega
  have b2 : ((o.size : Int)) < 1000000000 := by omega
  go_enter Tryd.func19, Tryd.ntmps19
  go_wp2_with fail
  refine H1.out.mono ?_
  rintro e w1 ⟨rfl, hg⟩
  have HG := Lib.hid hg
  clear hg H1
  cases hr : rightB s.data.toList
  · go_wp2
    go_ret
    exact ⟨by rw [HB.out, hr]; rfl, HG.out⟩
  · go_wp2_with fail
    refine (H2.out _).mono ?_
    rintro e w2 ⟨rfl, hg⟩
    have HG2 := Lib.hid (World.grownBy.trans HG.out hg)
    clear hg H2
    cases hr2 : rightB o.data.toList
    · go_wp2
      go_ret
      exact ⟨by rw [HB.out, hr, hr2]; rfl, HG2.out⟩
    · go_wp2_with fail
      refine (hasPrefix_any _ _ _).mono ?_
      rintro e w3 ⟨rfl, hg⟩
      have HG3 := Lib.hid (World.grownBy.trans HG2.out hg)
      clear hg
      cases hq : (o ++ ⟨#[47]⟩).data.toList.isPrefixOf (s ++ ⟨#[47]⟩).data.toList
      all_goals
        go_wp2
        go_ret
        exact ⟨by rw [HB.out, hr, hr2, hq]; rfl, HG3.out⟩

/-- One by one: may it be, and does it stand behind the one ahead of it? -/
def stepOk (L : List (List UInt8)) (k : Nat) : Bool := rightB (L.getD k []) && (k == 0 || decide (cmpP (L.getD (k - 1) []) (L.getD k []) < 0))
def sortedTo (L : List (List UInt8)) (k : Nat) : Bool := (List.range k).all (stepOk L)
def sortedB (L : List (List UInt8)) : Bool := sortedTo L L.length
theorem sortedTo_next (L : List (List UInt8)) (k : Nat) : sortedTo L (k + 1) = (sortedTo L k && stepOk L k) := by simp [sortedTo, List.range_succ]
theorem sorted_not (L : List (List UInt8)) (k : Nat) (hk : k < L.length) (h : stepOk L k = false) : sortedB L = false := by
  rw [sortedB, sortedTo, List.all_eq_false]
  exact ⟨k, List.mem_range.2 hk, by rw [h]; decide⟩

set_option maxHeartbeats 4000000 in
theorem sorted_any (v : Value) (L : List (List UInt8)) (w : World) (hr : Rd w v (strsV L)) (hL : L.length < 1000000000) (hs : ∀ p ∈ L, p.length < 1000000000) :
    Calls Tryd.prog 21 #[v] w (Val (.bool (sortedB L)) w) := by
  obtain ⟨A, c, rfl⟩ := hr.form
  rw [strsV_len] at hr ⊢
  have HR := Lib.hid hr
  have HS := Lib.hid hs
  clear hr hs
  go_enter Tryd.func21, Tryd.ntmps21
  go_wp2
  go_loopw [7] (fun i W => ∃ k : Nat, i = .int .i64 k ∧ k ≤ L.length ∧ sortedTo L k = true ∧ w.grownBy W none) (fun i _ => L.length - (intOf i).toNat)
  case atStart => exact ⟨0, rfl, Nat.zero_le _, rfl, grown_refl _ _⟩
  case round =>
    obtain ⟨k, rfl, hk, hall, hg⟩ := hrel
    have HA := Lib.hid hall
    have HG := Lib.hid hg
    clear hall hg
    by_cases h : k < L.length
    · have HH := Lib.hid h
      obtain ⟨ad, u, hA, hu, hc⟩ := (HR.out.grown0 HG.out).cellAt (k := k) h
      obtain ⟨_, rfl⟩ := strs_at L hu
      clear hu
      have d0 : decide ((k : Int) < (L.length : Int)) = true := by simp; omega
      have hsz : ∀ j, (bts (L.getD j [])).size < 1000000000 := by
        intro j
        rw [bts_size]
        by_cases hj : j < L.length
        · exact HS.out _ (by simp [List.getElem?_eq_getElem hj])
        · rw [List.getD_eq_getElem?_getD, List.getElem?_eq_none (by omega)]; simp
      have HC := Lib.hid (fun w' => right_any (bts (L.getD k [])) w' (hsz k))
      have HC2 := Lib.hid (fun w' => compare_any (bts (L.getD (k - 1) [])) (bts (L.getD k [])) w' (hsz _) (hsz _))
      have HN := Lib.hid (sortedTo_next L k)
      have HO := Lib.hid (sorted_not L k h)
      have HT := Lib.hid (show stepOk L k = (rightB (L.getD k []) && (k == 0 || decide (cmpP (L.getD (k - 1) []) (L.getD k []) < 0))) from rfl)
      have hprev : k = 0 ∨ ∃ ad', A = some ad' ∧ ∀ W, wr.grownBy W none → W.cell? (ad'.add (k - 1)) = some (.string (bts (L.getD (k - 1) []))) := by
        by_cases h0 : k = 0
        · exact .inl h0
        · refine .inr ?_
          subst hA
          refine ⟨_, rfl, fun W hW => ?_⟩
          have h2 := ((HR.out.grown0 HG.out).grown0 hW).cells (by intro e; have := congrArg List.length e; rw [strsV_len, List.length_nil] at this; omega)
          obtain ⟨ad2, he, hcs⟩ := h2
          cases he
          exact hcs _ _ (strsV_at L (k - 1) (by omega))
      have HV := Lib.hid hprev
      clear hsz h hprev
      subst hA
      generalize hp : L.getD k [] = p at *
      generalize hq : L.getD (k - 1) [] = q at *
      clear hp hq
      go_wp2_with fail
      refine (HC.out _).mono ?_
      rintro e w1 ⟨rfl, hg1⟩
      have HG0 := Lib.hid hg1
      have HG1 := Lib.hid (World.grownBy.trans HG.out hg1)
      clear hg1 HC
      rw [bts_data]
      cases hr : rightB p
      · go_wp2
        go_ret
        exact ⟨by rw [HO.out (by rw [HT.out, hr]; rfl)]; rfl, HG1.out⟩
      · by_cases h0 : k = 0
        · subst h0
          go_wp2
          go_roundw
          case rel => exact ⟨1, rfl, HH.out, by rw [HN.out, HA.out, HT.out, hr]; rfl, HG1.out⟩
          case measure =>
            have := HH.out
            simp [intOf]
            omega
        · obtain ⟨ad', he, hcell⟩ := HV.out.resolve_left h0
          cases he
          have hc1 := hcell w1 HG0.out
          have c3 : ((k : Int) - 1) = ((k - 1 : Nat) : Int) := by omega
          have c4 : ((k : Int) - 1).toNat = k - 1 := by omega
          have d1 : decide ((0 : Int) < (k : Int)) = true := by simp; omega
          clear hcell hc
          go_wp2_with fail
          refine (HC2.out _).mono ?_
          rintro e w2 ⟨rfl, hg2⟩
          have HG2 := Lib.hid (World.grownBy.trans HG1.out hg2)
          clear hg2 HC2
          rw [bts_data, bts_data]
          have h0' : (k == 0) = false := beq_eq_false_iff_ne.2 h0
          generalize cmpP q p = z at *
          by_cases hz : z < 0
          · have d2 : decide (0 ≤ z) = false := by simp; omega
            have HZ := Lib.hid (show stepOk L k = true by rw [HT.out, hr, h0']; simp [hz])
            clear h0 h0' c3 c4 hz
            go_wp2
            go_roundw
            case rel => exact ⟨k + 1, by go_num, by have := HH.out; omega, by rw [HN.out, HA.out, HZ.out]; rfl, HG2.out⟩
            case measure =>
              have := HH.out
              simp [intOf]
              omega
          · have d2 : decide (0 ≤ z) = true := by simp; omega
            have HZ := Lib.hid (show stepOk L k = false by rw [HT.out, hr, h0']; simp [hz])
            clear h0 h0' c3 c4 hz
            go_wp2
            go_ret
            exact ⟨by rw [HO.out HZ.out]; rfl, HG2.out⟩
    · have d0 : decide ((k : Int) < (L.length : Int)) = false := by simp; omega
      go_wp2
      go_ret
      refine ⟨?_, HG.out⟩
      have := HA.out
      rw [show k = L.length by omega] at this
      rw [sortedB, this]
      rfl
end Go.Proofs.YtohndlfekecfoaaDoor
