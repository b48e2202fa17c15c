/-
  The walk of PathJoins.
-/
import Derived.Test.YtohndlfekecfoaaDoorPathParentsLaw
namespace Go.Proofs.YtohndlfekecfoaaDoor
set_option maxRecDepth 1000000
open Go.RowKit

def slashed : List (List UInt8) → List UInt8
  | [] => []
  | p :: l => 47 :: p ++ slashed l
theorem slashed_snoc (l : List (List UInt8)) (p : List UInt8) : slashed (l ++ [p]) = slashed l ++ 47 :: p := by
  induction l with
  | nil => simp [slashed]
  | cons q l ih => simp [slashed, ih]
theorem slashed_join {l : List (List UInt8)} (h : l ≠ []) : slashed l = 47 :: join l := by
  induction l with
  | nil => exact absurd rfl h
  | cons p l ih =>
    cases l with
    | nil => simp [slashed, join]
    | cons q l => rw [slashed, ih (by simp), join_cons p (by simp)]; simp
theorem slashed_parts (s : List UInt8) : slashed (parts s) = 47 :: s := by rw [slashed_join (parts_ne s), join_parts]
theorem slashed_len (l : List (List UInt8)) (k : Nat) : (slashed (l.take k)).length ≤ (slashed l).length := by
  induction l generalizing k with
  | nil => simp
  | cons p l ih =>
    cases k with
    | zero => simp [slashed]
    | succ k =>
      have := ih k
      rw [List.take_succ_cons]
      simp only [slashed, List.length_append, List.length_cons]
      omega
/-- A path and a part behind it. -/
theorem joins {a b : List UInt8} (ha : rightB a = true) (hb : rightB b = true) (hl : (a ++ 47 :: b).length ≤ 256) :
    rightB (a ++ 47 :: b) = true ∧ belowB (a ++ 47 :: b) a = true ∧ cmpP a (a ++ 47 :: b) = -1 ∧ (parentB b = [] → parentB (a ++ 47 :: b) = a) := by
  have hr : rightB (a ++ 47 :: b) = true := right_of hl (fun p hp => by
    rw [parts_app] at hp
    rcases List.mem_append.1 hp with hp | hp
    · exact (right_all ha).2 p hp
    · exact (right_all hb).2 p hp)
  refine ⟨hr, ?_, ?_, fun hp => ?_⟩
  · rw [belowB, hr, ha, parts_app]
    have : ∀ (x y : List (List UInt8)), x.isPrefixOf (x ++ y) = true := by
      intro x y
      induction x with
      | nil => simp
      | cons p x ih => simp [ih]
    rw [this]; rfl
  · rw [cmpP, parts_app]
    exact cmpL_pre _ _ (parts_ne b)
  · rcases parent_cases hb with ⟨_, h2⟩ | ⟨h1, _⟩
    · rw [partsB, if_pos hb] at h2
      rw [parentB, if_pos hr, parts_app, h2, List.dropLast_concat, join_parts]
    · exact absurd hp h1
theorem joins_not {a b : List UInt8} (hl : 256 < (a ++ 47 :: b).length) : rightB (a ++ 47 :: b) = false := by
  rw [rightB, decide_eq_false (by omega)]; rfl

set_option maxHeartbeats 8000000 in
theorem pathJoins_walk (a b : ByteArray) (w : World) : Calls Tryd.prog 8 #[.string a, .string b] w (Awake w) := by
  by_cases ha : a.size ≤ 400
  · have da : decide ((400 : Int) < (a.size : Int)) = false := decide_eq_false (by omega)
    by_cases hb : b.size ≤ 400
    · have db : decide ((400 : Int) < (b.size : Int)) = false := decide_eq_false (by omega)
      have H1 := Lib.hid (fun w' => right_any a w' (by omega))
      have H2 := Lib.hid (fun w' => right_any b w' (by omega))
      have ba : (a.size : Int) < 1000 := by omega
      have bb : (b.size : Int) < 1000 := by omega
      have hcd : (a ++ ⟨#[47]⟩ ++ b).data.toList = a.data.toList ++ 47 :: b.data.toList := by simp
      have hcs : (a ++ ⟨#[47]⟩ ++ b).size = a.size + 1 + b.size := by rw [size_len, hcd, size_len a, size_len b]; simp; omega
      have HCD := Lib.hid (And.intro hcd hcs)
      have G0 := Lib.hid (grown_refl w none)
      have HAB := Lib.hid (And.intro ha hb)
      clear hcd hcs ha hb
      go_enter Tryd.func8, Tryd.ntmps8
      go_wp2_with fail
      refine (H1.out _).mono ?_
      rintro e w1 ⟨rfl, hg⟩
      have G1 := Lib.hid (World.grownBy.trans G0.out hg)
      clear hg
      cases hra : rightB a.data.toList
      · skip
        go_wp2_with fail
        refine (awake_any _).mono ?_
        rintro e w2 ⟨rfl, hg⟩
        have G2 := Lib.hid (World.grownBy.trans G1.out hg)
        clear hg
        go_wp2
        go_ret
        exact ⟨rfl, G2.out⟩
      · skip
        go_wp2_with fail
        refine (H2.out _).mono ?_
        rintro e w2 ⟨rfl, hg⟩
        have G2 := Lib.hid (World.grownBy.trans G1.out hg)
        clear hg
        cases hrb : rightB b.data.toList
        · skip
          go_wp2_with fail
          refine (awake_any _).mono ?_
          rintro e w3 ⟨rfl, hg⟩
          have G3 := Lib.hid (World.grownBy.trans G2.out hg)
          clear hg
          go_wp2
          go_ret
          exact ⟨rfl, G3.out⟩
        · have HJ := Lib.hid (joins hra hrb)
          have HPR := Lib.hid (And.intro hra hrb)
          clear hra hrb H1 H2
          by_cases hl : a.size + 1 + b.size ≤ 256
          · have d2 : decide ((256 : Int) < (a.size : Int) + 1 + (b.size : Int)) = false := decide_eq_false (by omega)
            have HJ2 := Lib.hid (HJ.out (by rw [← HCD.out.1, ← size_len, HCD.out.2]; exact hl))
            have HL := Lib.hid hl
            clear hl HJ
            go_wp2_with fail
            generalize a ++ ⟨#[47]⟩ ++ b = f at *
            have hfs : f.size ≤ 256 := by have := HCD.out.2; have := HL.out; omega
            have hab := HAB.out
            have hc : f.data.toList = a.data.toList ++ 47 :: b.data.toList := HCD.out.1
            have hpf : partsB f.data.toList = parts f.data.toList := by rw [partsB, hc, if_pos HJ2.out.1]
            have hpa : partsB a.data.toList = parts a.data.toList := by rw [partsB, if_pos HPR.out.1]
            have hpb : partsB b.data.toList = parts b.data.toList := by rw [partsB, if_pos HPR.out.2]
            have hpl : (parts f.data.toList).length = (parts a.data.toList).length + (parts b.data.toList).length := by rw [hc, parts_app, List.length_append]
            have hsl : slashed (parts f.data.toList) = 47 :: f.data.toList := slashed_parts _
            have hs1 : ∀ k, (bts (slashed ((parts f.data.toList).take k))).size < 1000 := by
              intro k
              have := slashed_len (parts f.data.toList) k
              rw [hsl, List.length_cons, ← size_len] at this
              rw [bts_size]; omega
            have hs2 : ∀ k, k < (parts f.data.toList).length → (bts ((parts f.data.toList).getD k [])).size < 1000 := by
              intro k hk
              have := part_le f.data.toList ((parts f.data.toList).getD k []) (by simp [List.getElem?_eq_getElem hk])
              rw [← size_len] at this
              rw [bts_size]; omega
            have hnl : (parts f.data.toList).length ≤ 1000 := by have := parts_size f; omega
            have r1 : rightB f.data.toList = true := by rw [hc]; exact HJ2.out.1
            have r2 : belowB f.data.toList a.data.toList = true := by rw [hc]; exact HJ2.out.2.1
            have r3 : cmpP a.data.toList f.data.toList = -1 := by rw [hc]; exact HJ2.out.2.2.1
            have r4 : parentB b.data.toList = [] → bts (parentB f.data.toList) = a := by rw [hc]; exact fun h => by rw [HJ2.out.2.2.2 h]; exact bts_of a
            have r5 : (bts (slashed (parts f.data.toList))).toList = (⟨#[47]⟩ ++ f).toList := by rw [Lib.toList_data, Lib.toList_data, bts_data, hsl]; simp
            have H3 := Lib.hid (fun w' => parts_any f w' (by omega))
            have H4 := Lib.hid (fun w' => right_any f w' (by omega))
            have H5 := Lib.hid (fun w' => below_any f a w' (by omega) (by omega))
            have H6 := Lib.hid (fun w' => compare_any a f w' (by omega) (by omega))
            have H7 := Lib.hid (fun w' => parts_any a w' (by omega))
            have H8 := Lib.hid (fun w' => parts_any b w' (by omega))
            have H9 := Lib.hid (fun w' => parent_any b w' (by omega))
            have H10 := Lib.hid (fun w' => parent_any f w' (by omega))
            rw [r1] at H4
            rw [r2] at H5
            rw [r3] at H6
            rw [hpf] at H3
            rw [hpa] at H7
            rw [hpb] at H8
            have R := Lib.hid (And.intro r4 (And.intro r5 (And.intro hpl (And.intro hs1 hs2))))
            have bf : (f.size : Int) < 1000 := by omega
            clear r1 r2 r3 r4 r5 hpf hpa hpb hc hab hfs hsl hpl hs1 hs2 HJ2 HCD HL
            generalize parts f.data.toList = L at *
            refine (H3.out _).mono ?_
            rintro e w3 ⟨v3, rfl, hr3, hg, _⟩
            obtain ⟨A3, c3, rfl⟩ := hr3.form
            rw [strsV_len] at hr3 ⊢
            have HR := Lib.hid hr3
            have G3 := Lib.hid (World.grownBy.trans G2.out hg)
            clear hr3 hg
            go_wp2
            go_loopw [6, 44] (fun s i W => ∃ k : Nat, i = .int .i64 k ∧ k ≤ L.length ∧ s = .string (bts (slashed (L.take k))) ∧ w3.grownBy W none) (fun _ i _ => L.length - (intOf i).toNat)
            case atStart => exact ⟨0, rfl, Nat.zero_le _, rfl, grown_refl _ _⟩
            case round =>
              obtain ⟨k, rfl, hk, rfl, hg⟩ := hrel
              have HG := Lib.hid hg
              have G0 := Lib.hid (World.grownBy.trans G3.out hg)
              clear hg
              by_cases h : k < L.length
              · have HK := Lib.hid h
                obtain ⟨ad, u, rfl, hu, hc⟩ := (HR.out.grown0 HG.out).cellAt (k := k) h
                obtain ⟨_, rfl⟩ := strs_at L hu
                clear hu
                have d3 : decide ((k : Int) < (L.length : Int)) = true := by simp; omega
                have b1 := R.out.2.2.2.1 k
                have b2 := R.out.2.2.2.2 k h
                have HN := Lib.hid (show bts (slashed (L.take k)) ++ (⟨#[47]⟩ ++ bts (L.getD k [])) = bts (slashed (L.take (k + 1))) by
                  rw [take_next L k h, slashed_snoc, show (⟨#[47]⟩ : ByteArray) = bts [47] from rfl, bts_app, bts_app]; rfl)
                generalize L.getD k [] = p at *
                generalize slashed (L.take k) = S at *
                go_wp2
                go_roundw
                case rel => exact ⟨k + 1, by go_num, HK.out, by rw [HN.out], HG.out⟩
                case measure =>
                  have := HK.out
                  simp [intOf]
                  omega
              · have d3 : decide ((k : Int) < (L.length : Int)) = false := by simp; omega
                have hkl : L.take k = L := List.take_of_length_le (by omega)
                rw [hkl]
                have e1 := R.out.2.1
                have HRL := Lib.hid R.out.2.2.1
                have HRP := Lib.hid R.out.1
                clear hkl R
                generalize slashed L = S at *
                go_wp2_with fail
                refine (H4.out _).mono ?_
                rintro e w1 ⟨rfl, hg⟩
                have G1 := Lib.hid (World.grownBy.trans G0.out hg)
                clear hg
                go_wp2_with fail
                refine (H5.out _).mono ?_
                rintro e w2 ⟨rfl, hg⟩
                have G2 := Lib.hid (World.grownBy.trans G1.out hg)
                clear hg
                go_wp2_with fail
                refine (H6.out _).mono ?_
                rintro e w3 ⟨rfl, hg⟩
                have G3 := Lib.hid (World.grownBy.trans G2.out hg)
                clear hg
                go_wp2_with fail
                refine (H3.out _).mono ?_
                rintro e w4 ⟨v4, rfl, hr4, hg, _⟩
                have G4 := Lib.hid (World.grownBy.trans G3.out hg)
                clear hg
                obtain ⟨A4, c4, rfl⟩ := hr4.form
                rw [strsV_len]
                clear hr4
                go_wp2_with fail
                refine (H7.out _).mono ?_
                rintro e w5 ⟨v5, rfl, hr5, hg, _⟩
                have G5 := Lib.hid (World.grownBy.trans G4.out hg)
                clear hg
                obtain ⟨A5, c5, rfl⟩ := hr5.form
                rw [strsV_len]
                clear hr5
                go_wp2_with fail
                refine (H8.out _).mono ?_
                rintro e w6 ⟨v6, rfl, hr6, hg, _⟩
                have G6 := Lib.hid (World.grownBy.trans G5.out hg)
                clear hg
                obtain ⟨A6, c6, rfl⟩ := hr6.form
                rw [strsV_len]
                clear hr6
                have hLL := HRL.out
                generalize (parts a.data.toList).length = na at *
                generalize (parts b.data.toList).length = nb at *
                have e2 : ((L.length : Int) == (na : Int) + (nb : Int)) = true := by rw [hLL]; simp
                have hw64 : wrap64 ((na : Int) + (nb : Int)) = (na : Int) + (nb : Int) := by unfold wrap64; omega
                clear hLL HRL hnl
                go_wp2_with fail
                refine (H9.out _).mono ?_
                rintro e w7 ⟨rfl, hg⟩
                have G7 := Lib.hid (World.grownBy.trans G6.out hg)
                clear hg
                have hpe : (bts (parentB b.data.toList)).toList = parentB b.data.toList := Lib.toList_data _
                by_cases hP : parentB b.data.toList = []
                · have e3 : (bts (parentB b.data.toList)).toList.isEmpty = true := by rw [hpe, hP]; rfl
                  have e4 : ((bts (parentB b.data.toList)).toList == []) = true := by rw [hpe, hP]; rfl
                  have HQ := Lib.hid (HRP.out hP)
                  clear hpe hP HRP
                  generalize bts (parentB b.data.toList) = Q at *
                  go_wp2_with fail
                  refine (H10.out _).mono ?_
                  rintro e w8 ⟨rfl, hg⟩
                  have G8 := Lib.hid (World.grownBy.trans G7.out hg)
                  clear hg
                  rw [HQ.out]
                  go_wp2_with fail
                  refine (awake_any _).mono ?_
                  rintro e w9 ⟨rfl, hg⟩
                  have G9 := Lib.hid (World.grownBy.trans G8.out hg)
                  clear hg
                  go_wp2
                  go_ret
                  exact ⟨rfl, G9.out⟩
                · have e3 : (bts (parentB b.data.toList)).toList.isEmpty = false := by
                    rw [hpe]
                    cases h0 : parentB b.data.toList with
                    | nil => exact absurd h0 hP
                    | cons x y => rfl
                  have e4 : ((bts (parentB b.data.toList)).toList == []) = false := by
                    rw [hpe]
                    exact beq_eq_false_iff_ne.2 hP
                  clear hpe hP HRP
                  generalize bts (parentB b.data.toList) = Q at *
                  go_wp2_with fail
                  refine (awake_any _).mono ?_
                  rintro e w8 ⟨rfl, hg⟩
                  have G8 := Lib.hid (World.grownBy.trans G7.out hg)
                  clear hg
                  go_wp2
                  go_ret
                  exact ⟨rfl, G8.out⟩
          · have d2 : decide ((256 : Int) < (a.size : Int) + 1 + (b.size : Int)) = true := decide_eq_true (by omega)
            have hnr : rightB (a ++ ⟨#[47]⟩ ++ b).data.toList = false := by rw [HCD.out.1]; exact joins_not (by rw [← HCD.out.1, ← size_len, HCD.out.2]; omega)
            have H4 := Lib.hid (fun w' => right_any (a ++ ⟨#[47]⟩ ++ b) w' (by rw [HCD.out.2]; have := HAB.out; omega))
            rw [hnr] at H4
            clear hl HJ hnr
            go_wp2_with fail
            refine (H4.out _).mono ?_
            rintro e w3 ⟨rfl, hg⟩
            have G3 := Lib.hid (World.grownBy.trans G2.out hg)
            clear hg
            go_wp2_with fail
            refine (awake_any _).mono ?_
            rintro e w4 ⟨rfl, hg⟩
            have G4 := Lib.hid (World.grownBy.trans G3.out hg)
            clear hg
            go_wp2
            go_ret
            exact ⟨rfl, G4.out⟩
    · have db : decide ((400 : Int) < (b.size : Int)) = true := decide_eq_true (by omega)
      have HW := Lib.hid (awake_any w)
      go_enter Tryd.func8, Tryd.ntmps8
      go_wp2_with fail
      refine HW.out.mono ?_
      rintro e w1 ⟨rfl, hg⟩
      have HG := Lib.hid hg
      clear hg HW
      go_wp2
      go_ret
      exact ⟨rfl, HG.out⟩
  · have da : decide ((400 : Int) < (a.size : Int)) = true := decide_eq_true (by omega)
    have HW := Lib.hid (awake_any w)
    go_enter Tryd.func8, Tryd.ntmps8
    go_wp2_with fail
    refine HW.out.mono ?_
    rintro e w1 ⟨rfl, hg⟩
    have HG := Lib.hid hg
    clear hg HW
    go_wp2
    go_ret
    exact ⟨rfl, HG.out⟩
end Go.Proofs.YtohndlfekecfoaaDoor
