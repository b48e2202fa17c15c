/-
  The document's own first state and table over this program.
-/
import Derived.Test.YtmhcfbfdbminnaaDoorRefRoot
import Derived.Test.YtmhcfbfdbminnaaDoorRootTab
namespace Go.Proofs.YtmhcfbfdbminnaaDoor
open Go.RowKit

theorem map_take_succ (l : List Nat) (f : Nat → Nat) (k : Nat) (h : k < l.length) : (l.take (k + 1)).map f = (l.take k).map f ++ [f (l.getD k 0)] := by
  rw [List.take_succ_eq_append_getElem h, List.map_append]
  simp [List.getElem?_eq_getElem h]

set_option maxHeartbeats 4000000 in
theorem refStart_any (w : World) : Calls Tryd.prog 29 #[] w (OutI w startN) := by
  have hL : (sieveN 18).length = 8 := by rw [sieve8]; rfl
  have HPR := Lib.hid (primes_any 8 18 hL (by decide) w)
  have HT := Lib.hid roots2
  have HGE := Lib.hid (sieve_ge 18)
  have HL := Lib.hid hL
  generalize sieveN 18 = P at *
  clear hL
  go_enter Tryd.func29, Tryd.ntmps29
  go_wp2_with fail
  refine HPR.out.mono ?_
  rintro e w1 ⟨v, rfl, hr, hg⟩
  have HG := Lib.hid hg
  have eP : (intsV P).length = 8 := by rw [intsV_len, HL.out]
  obtain ⟨A, c, rfl⟩ := hr.form
  rw [eP] at hr ⊢
  have HR := Lib.hid hr
  have hlc := hr.len.2
  unfold maxLen at hlc
  clear hr hg HPR eP
  go_wp2
  go_loopw [1, 3] (fun u i W => ∃ k : Nat, k ≤ 8 ∧ i = .int .i64 k ∧ W.ownsRow w1.heap.size 3 1 u k (intsV ((P.take k).map (fun p => rootN p 2))) ∧ w1.grownBy W none) (fun _ i _ => 8 - (intOf i).toNat)
  case atStart => exact ⟨0, Nat.zero_le _, rfl, World.ownsRow_nil _ _ _ _, grown_refl _ _⟩
  case round =>
    obtain ⟨k, hk, rfl, ho, hgr⟩ := hrel
    have HO := Lib.hid ho
    have HGR := Lib.hid hgr
    clear ho hgr
    by_cases hlt : k < 8
    · obtain ⟨ad, rfl, hc⟩ := (HR.out.grown0 HGR.out).num k (by rw [HL.out]; exact hlt)
      have hpb := (HGE.out (P.getD k 0) (by
        rw [List.getD_eq_getElem?_getD, List.getElem?_eq_getElem (by rw [HL.out]; exact hlt)]
        exact List.getElem_mem _)).2
      have HM := Lib.hid (map_take_succ P (fun p => rootN p 2) k (by rw [HL.out]; exact hlt))
      generalize P.getD k 0 = q at *
      have HROOT := Lib.hid (root_any q 2 (by omega) (by decide) (by decide) wr)
      go_wp2_with fail
      refine HROOT.out.mono ?_
      rintro e w2 ⟨rfl, hg2⟩
      have HO2 := Lib.hid (HO.out.kept hg2 (by cases u1.ownBlock <;> simp))
      have HG2 := Lib.hid (HGR.out.trans hg2)
      clear hg2 HROOT
      have hM := HM.out
      try simp only at hM
      generalize rootN q 2 = R at *
      have HM2 := Lib.hid hM
      clear hM HM
      go_wp2_with (at_builtin; refine wpList_append_ints _ rfl _ _ rfl w1.heap.size _ k _ rfl (HO2.out.alloc _) _ [R] rfl ?_ ?_ ?_ ?_)
      · exact Rd.int1 w2 R
      · simp; omega
      · have := HG2.out.size; simp; omega
      · intro v' w' ho hg hat
        have HO' := Lib.hid ho
        have HG' := Lib.hid hg
        clear ho hg hat
        go_wp2
        go_roundw
        case rel =>
          refine ⟨k + 1, by omega, by go_num, ?_, grown_new (grown_alloc HG2.out _) HG'.out (fun b hb => (HO2.out.lt b hb).1)⟩
          rw [HM2.out, intsV_app]
          have h := HO'.out
          simp only [List.map_take] at h ⊢
          exact h
        case measure => simp [intOf]; omega
    · have hkn : P.take k = P := List.take_of_length_le (by rw [HL.out]; omega)
      rw [hkn, HT.out] at HO
      clear hkn
      go_wp2
      go_ret
      exact ⟨_, rfl, Rd.of_own HO.out, HG.out.trans HGR.out⟩

set_option maxHeartbeats 4000000 in
theorem refTable_any (w : World) : Calls Tryd.prog 30 #[] w (OutI w kN) := by
  have hL : (sieveN 310).length = 64 := by rw [sieve64]; rfl
  have HPR := Lib.hid (primes_any 64 310 hL (by decide) w)
  have HT := Lib.hid roots3
  have HGE := Lib.hid (sieve_ge 310)
  have HL := Lib.hid hL
  generalize sieveN 310 = P at *
  clear hL
  go_enter Tryd.func30, Tryd.ntmps30
  go_wp2_with fail
  refine HPR.out.mono ?_
  rintro e w1 ⟨v, rfl, hr, hg⟩
  have HG := Lib.hid hg
  have eP : (intsV P).length = 64 := by rw [intsV_len, HL.out]
  obtain ⟨A, c, rfl⟩ := hr.form
  rw [eP] at hr ⊢
  have HR := Lib.hid hr
  have hlc := hr.len.2
  unfold maxLen at hlc
  clear hr hg HPR eP
  go_wp2
  go_loopw [1, 3] (fun u i W => ∃ k : Nat, k ≤ 64 ∧ i = .int .i64 k ∧ W.ownsRow w1.heap.size 3 1 u k (intsV ((P.take k).map (fun p => rootN p 3))) ∧ w1.grownBy W none) (fun _ i _ => 64 - (intOf i).toNat)
  case atStart => exact ⟨0, Nat.zero_le _, rfl, World.ownsRow_nil _ _ _ _, grown_refl _ _⟩
  case round =>
    obtain ⟨k, hk, rfl, ho, hgr⟩ := hrel
    have HO := Lib.hid ho
    have HGR := Lib.hid hgr
    clear ho hgr
    by_cases hlt : k < 64
    · obtain ⟨ad, rfl, hc⟩ := (HR.out.grown0 HGR.out).num k (by rw [HL.out]; exact hlt)
      have hpb := (HGE.out (P.getD k 0) (by
        rw [List.getD_eq_getElem?_getD, List.getElem?_eq_getElem (by rw [HL.out]; exact hlt)]
        exact List.getElem_mem _)).2
      have HM := Lib.hid (map_take_succ P (fun p => rootN p 3) k (by rw [HL.out]; exact hlt))
      generalize P.getD k 0 = q at *
      have HROOT := Lib.hid (root_any q 3 (by omega) (by decide) (by decide) wr)
      go_wp2_with fail
      refine HROOT.out.mono ?_
      rintro e w2 ⟨rfl, hg2⟩
      have HO2 := Lib.hid (HO.out.kept hg2 (by cases u1.ownBlock <;> simp))
      have HG2 := Lib.hid (HGR.out.trans hg2)
      clear hg2 HROOT
      have hM := HM.out
      try simp only at hM
      generalize rootN q 3 = R at *
      have HM2 := Lib.hid hM
      clear hM HM
      go_wp2_with (at_builtin; refine wpList_append_ints _ rfl _ _ rfl w1.heap.size _ k _ rfl (HO2.out.alloc _) _ [R] rfl ?_ ?_ ?_ ?_)
      · exact Rd.int1 w2 R
      · simp; omega
      · have := HG2.out.size; simp; omega
      · intro v' w' ho hg hat
        have HO' := Lib.hid ho
        have HG' := Lib.hid hg
        clear ho hg hat
        go_wp2
        go_roundw
        case rel =>
          refine ⟨k + 1, by omega, by go_num, ?_, grown_new (grown_alloc HG2.out _) HG'.out (fun b hb => (HO2.out.lt b hb).1)⟩
          rw [HM2.out, intsV_app]
          have h := HO'.out
          simp only [List.map_take] at h ⊢
          exact h
        case measure => simp [intOf]; omega
    · have hkn : P.take k = P := List.take_of_length_le (by rw [HL.out]; omega)
      rw [hkn, HT.out] at HO
      clear hkn
      go_wp2
      go_ret
      exact ⟨_, rfl, Rd.of_own HO.out, HG.out.trans HGR.out⟩
end Go.Proofs.YtmhcfbfdbminnaaDoor
