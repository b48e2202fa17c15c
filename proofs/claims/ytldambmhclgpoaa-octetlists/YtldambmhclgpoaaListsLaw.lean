/-
  The walk of the law OctetLists.
-/
import Derived.Test.YtldambmhclgpoaaLists
namespace Go.Proofs.Ytldambmhclgpoaa
open Go.RowKit

def zsV (l : List Int) : List Value := l.map fun z : Int => Value.int .i64 z
theorem zsV_len (l : List Int) : (zsV l).length = l.length := by simp [zsV]
theorem zsV_nat (l : List Nat) : zsV (l.map fun n : Nat => (n : Int)) = intsV l := by simp [zsV, intsV]

set_option maxHeartbeats 2000000 in
theorem lists_walk (v : Value) (zs : List Int) (up : Int) (w : World) (hv : Rd w v (zsV zs)) :
    Calls Try.prog 5 #[v, .int .i64 up] w (Awake w) := by
  have HV := hv
  obtain ⟨A, c, rfl⟩ := hv.form
  rw [zsV_len] at HV ⊢
  clear hv
  by_cases h100 : 100 < zs.length
  · go_enter Try.func5, Try.ntmps5
    go_wp2_with fail
    refine (awake_any _).mono ?_
    rintro e w1 ⟨rfl, hg1⟩
    go_wp2
    go_ret
    exact ⟨rfl, hg1⟩
  · have hnn : norm (zs.length : Int) = zs.length := by unfold norm; rw [if_neg (by omega)]; simp
    have H := number_any (.slice none 0 0) [] zs.length w (Rd.nil _) (by simp)
    rw [hnn, List.nil_append] at H
    have H0 := Lib.hid H
    clear H hnn
    have h6 := enc_six zs.length (by omega)
    generalize hc : zs.length = cnt at *
    have HC := Lib.hid hc
    clear hc
    go_enter Try.func5, Try.ntmps5
    go_wp2_with fail
    refine H0.out.mono ?_
    rintro e w1 ⟨v1, rfl, hr1, hg1, hf1⟩
    clear hf1
    go_wp2
    go_loopw [5, 20] (fun s t W => ∃ (j : Nat) (ns : List Nat), j ≤ cnt ∧ t = .int .i64 j ∧ zs.take j = ns.map (fun n : Nat => (n : Int)) ∧ (∀ n ∈ ns, n ≤ 1099511627775) ∧ Rd W s (bytesV (enc cnt ++ encs ns)) ∧ w.grownBy W none) (fun _ t _ => cnt - (intOf t).toNat)
    case atStart => exact ⟨0, [], Nat.zero_le _, rfl, rfl, (fun _ h => by cases h), by simpa [encs] using hr1, hg1⟩
    case round =>
      clear hr1 hg1
      obtain ⟨j, ns, hj, rfl, hns, hle, hR, hg⟩ := hrel
      have HNS := Lib.hid hns
      have HLE := Lib.hid hle
      clear hns hle
      have hnl : ns.length ≤ j := by
        have := congrArg List.length HNS.out
        simp at this
        omega
      have hbl : (enc cnt ++ encs ns).length ≤ 700 := by
        rw [List.length_append]
        have := encs_len ns HLE.out
        omega
      by_cases hlt : j < cnt
      · have hjl : j < zs.length := by rw [HC.out]; exact hlt
        obtain ⟨ad, u, rfl, hu, hcl⟩ := (HV.grown0 hg).cellAt (k := j) hlt
        have hz : u = .int .i64 zs[j] := by
          simp only [zsV, List.getElem?_map, List.getElem?_eq_getElem hjl, Option.map_some, Option.some.injEq] at hu
          exact hu.symm
        subst hz
        have ht : zs.take (j + 1) = zs.take j ++ [zs[j]] := by rw [List.take_succ_eq_append_getElem hjl]
        clear hu
        generalize zs[j] = z at *
        have HT := Lib.hid ht
        clear ht
        by_cases hz0 : z < 0
        · go_wp2_with fail
          refine (awake_any _).mono ?_
          rintro e w2 ⟨rfl, hg2⟩
          go_wp2
          go_ret
          exact ⟨rfl, hg.trans hg2⟩
        · have hz0b : decide (z < 0) = false := by simpa using hz0
          by_cases hz1 : 1099511627775 < z
          · go_wp2_with fail
            refine (awake_any _).mono ?_
            rintro e w2 ⟨rfl, hg2⟩
            go_wp2
            go_ret
            exact ⟨rfl, hg.trans hg2⟩
          · have hz1b : decide (1099511627775 < z) = false := by simpa using hz1
            obtain ⟨n, rfl⟩ := Int.eq_ofNat_of_zero_le (by omega : 0 ≤ z)
            have hnn : norm (n : Int) = n := by unfold norm; rw [if_neg (by omega)]; simp
            have H := number_any u5 (enc cnt ++ encs ns) n wr hR (by omega)
            rw [hnn, List.append_assoc, ← encs_snoc] at H
            have HN0 := Lib.hid H
            clear H hnn
            obtain ⟨A5, c5, rfl⟩ := hR.form
            go_wp2_with fail
            refine HN0.out.mono ?_
            rintro e w2 ⟨v2, rfl, hr2, hg2, hf2⟩
            go_wp2
            go_roundw
            case rel =>
              refine ⟨j + 1, ns ++ [n], by omega, by go_num, ?_, ?_, hr2, hg.trans hg2⟩
              · rw [HT.out, HNS.out]; simp
              · intro m hm
                rcases List.mem_append.1 hm with h | h
                · exact HLE.out m h
                · simp at h; omega
            case measure => simp [intOf]; omega
      · have htk : zs.take j = zs := List.take_of_length_le (by rw [HC.out]; omega)
        rw [htk] at HNS
        have hzl : ns.length = cnt := by
          have := congrArg List.length HNS.out
          simp at this
          rw [← this]; exact HC.out
        have HZ : Hid (zsV zs = intsV ns) := by
          show _ = _
          rw [HNS.out, zsV_nat]
        have HLn := Lib.hid hzl
        have HW := Lib.hid (new_any u5 _ wr hR (by omega))
        obtain ⟨A5, c5, rfl⟩ := hR.form
        clear htk hzl
        go_wp2_with fail
        refine HW.out.mono ?_
        rintro e w2 ⟨g, rfl, hr2, hl2, hg2⟩
        have hgA : w.grownBy w2 none := hg.trans hg2
        have hgw : w.heap.size ≤ g := Nat.le_trans hg.size hl2
        by_cases hup : (cnt : Int) ≤ up
        · have hr2' : Rdr w2 g (enc ns.length ++ (encs ns ++ [])) 0 := by rw [List.append_nil, HLn.out]; exact hr2
          have HL0 := Lib.hid (list_ok g ns [] up w2 hr2' (by rw [List.append_nil, HLn.out]; omega) HLE.out (by rw [HLn.out]; omega) (by rw [HLn.out]; exact hup))
          clear hr2 hr2'
          go_wp2_with fail
          refine HL0.out.mono ?_
          rintro e w3 ⟨v3, rfl, hr3, hrd3, hg3, hf3⟩
          have HE := Lib.hid (end_at g _ 0 w3 hrd3)
          have HR3 := hr3
          obtain ⟨A3, c3, rfl⟩ := hr3.form
          rw [intsV_len, HLn.out] at HR3 ⊢
          have hgB : w.grownBy w3 none := grown_new hgA hg3 (fun b hb => by injection hb; omega)
          have HV3 := HV.grown0 hgB
          rw [HZ.out] at HV3
          clear hr3 hf3
          have hupb : decide (up < (cnt : Int)) = false := by simpa using hup
          go_wp2_with (go_at_call 24; refine HE.out.mono ?_; rintro e w4 ⟨rfl, rfl⟩)
          go_loopw [10, 67] (fun _ t W => ∃ k : Nat, k ≤ cnt ∧ t = .int .i64 k ∧ Rd W (.slice A3 cnt c3) (intsV ns) ∧ Rd W (.slice A cnt c) (intsV ns) ∧ w.grownBy W none) (fun _ t _ => cnt - (intOf t).toNat)
          case atStart => exact ⟨0, Nat.zero_le _, rfl, HR3, HV3, hgB⟩
          case round =>
            clear HR3 HV3 hgB
            obtain ⟨k, hk, rfl, hRa, hRb, hgC⟩ := hrel
            by_cases hklt : k < cnt
            · obtain ⟨ad3, y, rfl, hy, hc3⟩ := hRa.cellAt (k := k) hklt
              obtain ⟨ad, y', rfl, hy', hcb⟩ := hRb.cellAt (k := k) hklt
              rw [hy] at hy'
              injection hy' with hy'
              subst hy'
              have hyi : ∃ q : Int, y = .int .i64 q := by
                simp only [intsV, List.getElem?_map, Option.map_eq_some_iff] at hy
                obtain ⟨q, _, rfl⟩ := hy
                exact ⟨_, rfl⟩
              obtain ⟨q, rfl⟩ := hyi
              clear hy
              have hki : (k : Int) < (cnt : Int) := by omega
              go_wp2
              go_quiet (fail)
              go_wp2
              go_roundw
              case rel => exact ⟨k + 1, by omega, by go_num, hRa, hRb, ⟨hgC.os, hgC.tape, hgC.output, hgC.size, hgC.block⟩⟩
              case measure => simp [intOf]; omega
            · go_wp2_with fail
              refine (awake_any _).mono ?_
              rintro e w5 ⟨rfl, hg5⟩
              go_wp2
              go_ret
              exact ⟨rfl, hgC.trans hg5⟩
        · have HL0 := Lib.hid (list_range g cnt (encs ns) up w2 hr2 (by omega) (by omega) hup 30)
          clear hr2
          go_wp2_with fail
          refine HL0.out.mono ?_
          rintro e w3 ⟨v3, rfl, hr3, hrd3, hg3, hf3⟩
          have HE := Lib.hid (err_at g _ 3 w3 hrd3)
          obtain ⟨A3, c3, rfl⟩ := hr3.form
          have hgB : w.grownBy w3 none := grown_new hgA hg3 (fun b hb => by injection hb; omega)
          have hupb : up < (cnt : Int) := by omega
          clear hr3 hf3
          have hl0 : (intsV []).length = 0 := rfl
          rw [hl0]
          clear hl0
          go_wp2_with (first | (go_at_call 28; refine HE.out.mono ?_; rintro e w4 ⟨rfl, rfl⟩) | (go_at_call 10; refine (awake_any _).mono ?_; rintro e w5 ⟨rfl, hg5⟩))
          go_ret
          exact ⟨rfl, hgB.trans hg5⟩
end Go.Proofs.Ytldambmhclgpoaa
