/-
  The document's own roots over this program.
-/
import Derived.Test.YtmhcfbfdbminnaaDoorRefTimes
import Derived.Test.YtmhcfbfdbminnaaDoorRefAbove
import Derived.Test.YtmhcfbfdbminnaaDoorRefPrimes
import Derived.Test.YtmhcfbfdbminnaaDoorRefSmall
namespace Go.Proofs.YtmhcfbfdbminnaaDoor
open Go.RowKit

theorem own_zero {w : World} {base : Nat} {e : TypeId} {g : Nat} (h : w.ownsRow base e 1 (.slice (some ⟨g, 0, none⟩) 0 0) 0 []) (a : Addr) (ha : a.block = g) : w.cell? a = none := by
  rcases h.2 with ⟨h', _⟩ | ⟨g', cap', cur, h', hb, hg, hnc, hcm, hcs, htake⟩
  · simp at h'
  · simp only [Value.slice.injEq, Option.some.injEq, Addr.mk.injEq, and_true, true_and] at h'
    obtain ⟨rfl, rfl⟩ := h'
    have hz : cur = #[] := by
      apply Array.eq_empty_of_size_eq_zero
      omega
    subst hz
    simp [World.cell?, ha, hg]

set_option maxHeartbeats 4000000 in
theorem root_any (p power : Nat) (hp : p ≤ 1000) (hw2 : 2 ≤ power) (hw3 : power ≤ 3) (w : World) :
    Calls Tryd.prog 35 #[.int .i64 (p : Int), .int .i64 (power : Int)] w fun e w' => e = .returned (.int .i64 ((rootN p power : Nat) : Int)) ∧ w.grownBy w' none := by
  go_enter Tryd.func35, Tryd.ntmps35
  go_wp2
  go_loopw [5, 6] (fun r i W => ∃ n : Nat, n ≤ 37 ∧ i = .int .i64 (36 - (n : Int)) ∧ r = .int .i64 ((rootK p power n : Nat) : Int) ∧ w.grownBy W none) (fun _ i _ => (intOf i + 1).toNat)
  case atStart => exact ⟨0, Nat.zero_le _, rfl, rfl, grown_refl _ _⟩
  case round =>
    obtain ⟨n, hn, rfl, rfl, hg⟩ := hrel
    have HG := Lib.hid hg
    clear hg
    have hrl := root_le p power n hn
    by_cases hlt : n < 37
    · obtain ⟨B, hB⟩ : ∃ B : Nat, 36 - n = B := ⟨_, rfl⟩
      have hBi : (36 - (n : Int)) = (B : Int) := by omega
      have h2B : (2 : Nat) ^ (37 - n) = 2 * 2 ^ B := by rw [← hB, show 37 - n = (36 - n) + 1 by omega, Nat.pow_succ, Nat.mul_comm]
      have hst : rootK p power (n + 1) = if aboveN (powN (digitsN (rootK p power n + 2 ^ B)) (power - 1)) (wantN p power) then rootK p power n else rootK p power n + 2 ^ B := by rw [← hB]; rfl
      rw [h2B] at hrl
      rw [hBi]
      have HST := Lib.hid hst
      have HBN := Lib.hid hB
      have hB36 : B ≤ 36 := by omega
      generalize rootK p power n = r at *
      clear hst hB h2B hBi
      go_wp2
      go_loop [7, 8] (fun s i => ∃ k : Nat, k ≤ B ∧ i = .int .i64 k ∧ s = .int .i64 ((2 ^ k : Nat) : Int)) (fun _ i => B - (intOf i).toNat)
      case atStart => exact ⟨0, Nat.zero_le _, rfl, rfl⟩
      case round =>
        obtain ⟨k, hk, rfl, rfl⟩ := hrel
        have hle : 2 ^ k ≤ 2 ^ B := Nat.pow_le_pow_right (by decide) hk
        by_cases hlk : k < B
        · have HP := Lib.hid (show 2 ^ (k + 1) = 2 ^ k * 2 from Nat.pow_succ 2 k)
          have hP36 : 2 ^ k ≤ 68719476736 := Nat.le_trans (Nat.pow_le_pow_right (n := 2) (by decide) (show k ≤ 36 by have := HBN.out; omega)) (by decide)
          have HLK := Lib.hid hlk
          generalize 2 ^ k = Pk at *
          clear hle hrl
          go_wp2
          go_round
          case rel => exact ⟨k + 1, HLK.out, by go_num, by rw [HP.out]; go_num⟩
          case measure => have := HLK.out; simp [intOf]; omega
        · have hkB : k = B := by omega
          subst hkB
          generalize hPB : 2 ^ k = PB at *
          have hx48 : r + PB < 281474976710656 := by omega
          obtain ⟨x, hx⟩ : ∃ x, r + PB = x := ⟨_, rfl⟩
          have hxi : (r : Int) + (PB : Int) = (x : Int) := by omega
          rw [hx] at hx48 HST
          have hDL := digits_le x hx48
          have hdg : digitsN x = [x % 65536, x / 65536 % 65536, x / 65536 / 65536] := rfl
          have HDL := Lib.hid hDL
          have HX48 := Lib.hid hx48
          have HDG := Lib.hid hdg
          clear hDL hdg hle hPB
          have hrdl : Rd (wr.alloc (.cells (intsV (digitsN x)).toArray 3)) (.slice (some ⟨wr.heap.size, 0, none⟩) 3 3) (intsV (digitsN x)) := (Row.new wr 3 (intsV (digitsN x))).rd 3 3 rfl (by decide) (by decide)
          have hga : wr.grownBy ((wr.alloc (.cells (intsV (digitsN x)).toArray 3)).alloc (.cells #[] 3)) none := grown_alloc (grown_alloc (grown_refl _ _) _) _
          have hrdl2 := hrdl.grown0 (grown_alloc (grown_refl _ none) (.cells #[] 3))
          have how : ((wr.alloc (.cells (intsV (digitsN x)).toArray 3)).alloc (.cells #[] 3)).ownsRow w.heap.size 3 1 (.slice (some ⟨wr.heap.size + 1, 0, none⟩) 0 0) 0 [] := by
            have := World.ownsRow_lit (base := w.heap.size) (e := 3) (size := 1) (wr.alloc (.cells (intsV (digitsN x)).toArray 3)) #[] 0 (by have := HG.out.size; simp; omega) (by decide) rfl
            simpa using this
          have HRL := Lib.hid hrdl2
          have HOW := Lib.hid how
          have HGA := Lib.hid (HG.out.trans hga)
          clear hrdl hrdl2 how hga
          go_wp2
          have hWeq : ((wr.alloc (.cells #[.int .i64 ((x : Int) % 65536), .int .i64 ((x : Int) / 65536 % 65536), .int .i64 ((x : Int) / 65536 / 65536)] 3)).alloc (.cells #[] 3)) = ((wr.alloc (.cells (intsV (digitsN x)).toArray 3)).alloc (.cells #[] 3)) := by
            rw [HDG.out]
            simp [intsV, intV]
          rw [hWeq]
          clear hWeq
          generalize ((wr.alloc (.cells (intsV (digitsN x)).toArray 3)).alloc (.cells #[] 3)) = W2 at *
          generalize hL0 : wr.heap.size = L0 at *
          have hpl := fun j => pow_len x j
          have hpo := fun j hj => pow_le x j HX48.out hj
          have HPO := Lib.hid (And.intro hpl hpo)
          clear hpl hpo
          go_loopw [11, 13] (fun u i W => ∃ j : Nat, j + 1 ≤ power ∧ i = .int .i64 ((j : Int) + 1) ∧ Rd W u (intsV (powN (digitsN x) j)) ∧ W2.grownBy W none) (fun _ i _ => power - (intOf i).toNat)
          case atStart => exact ⟨0, by omega, rfl, HRL.out, grown_refl _ _⟩
          case round =>
            obtain ⟨j, hj, rfl, hru, hgr⟩ := hrel
            have HRU := Lib.hid hru
            have HGR := Lib.hid hgr
            obtain ⟨A5, c5, rfl⟩ := hru.form
            clear hru hgr
            by_cases hlj : j + 1 < power
            · have hlen : (powN (digitsN x) j).length ≤ 6 := by rw [HPO.out.1 j]; omega
              have HTM := Lib.hid (times_any _ _ (powN (digitsN x) j) (digitsN x) 68719476736 wr HRU.out (HRL.out.grown0 HGR.out) (HPO.out.2 j (by omega)) HDL.out (by decide) (by decide) hlen (by show 3 ≤ 6; decide) (by show 0 < 3; decide))
              clear hlen
              go_wp2_with fail
              refine HTM.out.mono ?_
              rintro e w5 ⟨v5, rfl, hr5, hg5⟩
              have HR5 := Lib.hid hr5
              have HG5 := Lib.hid hg5
              clear hr5 hg5
              go_wp2
              go_roundw
              case rel => exact ⟨j + 1, by omega, by go_num, HR5.out, HGR.out.trans HG5.out⟩
              case measure => simp [intOf]; omega
            · have hjp : j = power - 1 := by omega
              rw [hjp] at HRU
              have HLEN := Lib.hid (HPO.out.1 (power - 1))
              have HOW2 := Lib.hid (HOW.out.kept HGR.out (by simp [Value.ownBlock]))
              have HGB := Lib.hid (HGA.out.trans HGR.out)
              clear hjp
              rw [show (intsV (powN (digitsN x) j)).length = (intsV (powN (digitsN x) (power - 1))).length by rw [show j = power - 1 by omega]]
              have hAL : (powN (digitsN x) (power - 1)).length = 3 * power := by rw [HLEN.out]; omega
              generalize hm5 : (intsV (powN (digitsN x) (power - 1))).length = m5 at *
              generalize powN (digitsN x) (power - 1) = ALL at *
              have hne5 : intsV ALL ≠ [] := by
                intro e
                have := congrArg List.length e
                rw [intsV_len, hAL] at this
                simp only [List.length_nil] at this
                omega
              obtain ⟨ad, rfl, hcad⟩ := HRU.out.cells hne5
              have hcell0 : ∃ u, wr.cell? (ad.add 0) = some u := by
                cases hA5 : intsV ALL with
                | nil => exact absurd hA5 hne5
                | cons u t => exact ⟨u, hcad 0 u (by rw [hA5]; rfl)⟩
              obtain ⟨u0, hu0⟩ := hcell0
              have hadlt : ad.block < wr.heap.size := by have := World.block_lt_of_cell? wr _ hu0; rw [add_block] at this; exact this
              have hadne : ad.block ≠ L0 + 1 := fun e => by
                have := own_zero HOW2.out (ad.add 0) (by rw [add_block]; exact e)
                rw [this] at hu0
                cases hu0
              have HAD := Lib.hid (And.intro hadlt (And.intro hadne hAL))
              generalize hS0 : wr.heap.size = S0 at *
              have HS0 := Lib.hid hS0
              clear hne5 hcad hu0 hadlt hadne hm5 hAL hS0
              go_wp2
              go_loopw [12, 14] (fun u i W => ∃ q : Nat, q ≤ 2 * power ∧ i = .int .i64 q ∧ W.ownsRow w.heap.size 3 1 u q (intsV (List.replicate q 0)) ∧ (∀ b, u.ownBlock = some b → b = L0 + 1 ∨ S0 ≤ b) ∧ S0 ≤ W.heap.size ∧ Rd W (.slice (some ad) m5 c5) (intsV ALL) ∧ w.grownBy W none) (fun _ i _ => 2 * power - (intOf i).toNat)
              case atStart => exact ⟨0, Nat.zero_le _, rfl, HOW2.out, fun b hb => .inl (by simp only [Value.ownBlock, Option.some.injEq] at hb; exact hb.symm), by rw [HS0.out]; exact Nat.le_refl _, HRU.out, HGB.out⟩
              case round =>
                clear HOW2 HGB HRU
                obtain ⟨q, hq, rfl, ho, hub, hs0, hru, hgr⟩ := hrel
                have HO := Lib.hid ho
                have HRU := Lib.hid hru
                have HGB := Lib.hid hgr
                have HUB := Lib.hid hub
                have HSS := Lib.hid hs0
                clear ho hru hgr hub hs0
                by_cases hlq : q < 2 * power
                · go_wp2_with (at_builtin; refine wpList_append_ints _ rfl _ _ rfl w.heap.size _ q _ rfl (HO.out.alloc _) _ [0] rfl ?_ ?_ ?_ ?_)
                  · exact Rd.int1 _ 0
                  · first | omega | (simp; omega)
                  · have := HGB.out.size; first | omega | (simp; omega)
                  · intro v' w' ho hg hat
                    have HO' := Lib.hid ho
                    have HG' := Lib.hid hg
                    have HAT := Lib.hid hat
                    clear ho hg hat
                    go_wp2
                    go_roundw
                    case rel =>
                      refine ⟨q + 1, by omega, by go_num, ?_, ?_, ?_, ?_, grown_new (grown_alloc HGB.out _) HG'.out (fun b hb => (HO.out.lt b hb).1)⟩
                      · have := HO'.out
                        rw [← intsV_app, show List.replicate q 0 ++ [0] = List.replicate (q + 1) (0 : Nat) by simp [List.replicate_succ']] at this
                        exact this
                      · intro b hb
                        rcases HAT.out with h | h
                        · exact HUB.out b (by rw [← h]; exact hb)
                        · rw [h] at hb
                          cases hb
                          right
                          have := HSS.out
                          simp
                          omega
                      · have h1 := HG'.out.size
                        have h2 := HSS.out
                        simp at h1
                        omega
                      · refine (HRU.out.grown0 (grown_alloc (grown_refl _ none) _)).grown HG'.out (fun b hb e => ?_)
                        simp only [Value.ownBlock, Option.some.injEq] at hb
                        have h1 := HAD.out
                        rcases HUB.out b e.symm with h | h <;> omega
                    case measure => simp [intOf]; omega
                · have hq2 : q = 2 * power := by omega
                  rw [hq2] at HO
                  have HWN := Lib.hid (show wantN p power = List.replicate (2 * power) 0 ++ [p] from rfl)
                  clear hq2
                  go_wp2_with (at_builtin; refine wpList_append_ints _ rfl _ _ rfl w.heap.size _ (2 * power) _ rfl (HO.out.alloc _) _ [p] rfl ?_ ?_ ?_ ?_)
                  · exact Rd.int1 _ p
                  · first | omega | (simp; omega)
                  · have := HGB.out.size; first | omega | (simp; omega)
                  · intro v' w' ho hg hat
                    have hrw : Rd w' v' (intsV (wantN p power)) := by
                      rw [HWN.out, intsV_app]
                      exact Rd.of_own ho
                    have hrA : Rd w' (.slice (some ad) m5 c5) (intsV ALL) := by
                      refine (HRU.out.grown0 (grown_alloc (grown_refl _ none) _)).grown hg (fun b hb e => ?_)
                      simp only [Value.ownBlock, Option.some.injEq] at hb
                      have h1 := HAD.out
                      rcases HUB.out b e.symm with h | h <;> omega
                    have HG' := Lib.hid (grown_new (grown_alloc HGB.out _) hg (fun b hb => (HO.out.lt b hb).1))
                    have HABV := Lib.hid (above_any _ _ ALL (wantN p power) w' hrA hrw (by have := HAD.out; omega) (by rw [HWN.out]; simp; omega))
                    obtain ⟨A6, c6, rfl⟩ := hrw.form
                    generalize (intsV (wantN p power)).length = m6 at *
                    clear ho hg hat hrw hrA
                    go_wp2_with fail
                    refine HABV.out.mono ?_
                    rintro e w6 ⟨rfl, hw6⟩
                    have hst := HST.out
                    cases hab : aboveN ALL (wantN p power) with
                    | true =>
                      rw [hab] at hst
                      simp only [if_true] at hst
                      have HST2 := Lib.hid hst
                      have HW6 := Lib.hid hw6
                      clear hst hab hw6
                      go_wp2
                      go_roundw
                      case rel => exact ⟨n + 1, by omega, by congr 1; have := HBN.out; omega, by rw [HST2.out], by rw [HW6.out]; exact HG'.out⟩
                      case measure => (simp [intOf]; try omega)
                    | false =>
                      rw [hab] at hst
                      simp only [Bool.false_eq_true, if_false] at hst
                      have HST2 := Lib.hid hst
                      have HW6 := Lib.hid hw6
                      clear hst hab hw6
                      go_wp2
                      go_roundw
                      case rel => exact ⟨n + 1, by omega, by congr 1; have := HBN.out; omega, by rw [HST2.out], by rw [HW6.out]; exact HG'.out⟩
                      case measure => (simp [intOf]; try omega)
    · have hn37 : n = 37 := by omega
      have hge : decide ((0 : Int) ≤ 36 - (n : Int)) = false := by simp; omega
      have HRN := Lib.hid (show rootN p power = rootK p power n % 4294967296 by rw [hn37]; rfl)
      have hrb : rootK p power n ≤ 137438953472 := Nat.le_trans (Nat.le_add_right _ _) hrl
      generalize rootK p power n = R at *
      have HW := Lib.hid (word_any R (by omega) wr)
      clear hrl hn37
      go_wp2_with fail
      refine HW.out.mono ?_
      rintro e w2 ⟨rfl, hw2⟩
      have HW2 := Lib.hid hw2
      clear hw2
      go_wp2
      go_ret
      exact ⟨by rw [HRN.out]; rfl, by rw [HW2.out]; exact HG.out⟩
end Go.Proofs.YtmhcfbfdbminnaaDoor
