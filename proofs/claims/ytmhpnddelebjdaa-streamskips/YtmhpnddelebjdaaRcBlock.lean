/-
  The document's own Block of layer 5 over this program.
-/
import Derived.Test.YtmhpnddelebjdaaRcWords
import Derived.Test.YtmhpnddelebjdaaStrBlock
import Derived.Test.YtmhpnddelebjdaaAppBytes
namespace Go.Proofs.Ytmhpnddelebjdaa
open Go.RowKit

theorem Row.rdp {w : World} {g : Nat} {t : TypeId} {cs : List Value} (h : Row w g t cs) (n : Nat) (hn : cs.length = n) (hm : n ≤ maxLen) : Rd w (.slice (some ⟨g, 0, none⟩) n n) cs := by
  subst hn
  refine ⟨_, _, rfl, Nat.le_refl _, hm, fun _ => ⟨_, rfl, fun j u hu => ?_⟩⟩
  have : (⟨g, 0, none⟩ : Addr).add j = ⟨g, j, none⟩ := by unfold Addr.add; split <;> simp_all
  rw [this]
  exact h.cell hu
theorem own_sigma (w : World) : (w.alloc (.cells #[.int .i64 1634760805, .int .i64 857760878, .int .i64 2036477234, .int .i64 1797285236] 3)).ownsRow w.heap.size 3 1 (.slice (some ⟨w.heap.size, 0, none⟩) 4 4) 4 (intsV (wn sigma)) :=
  ⟨rfl, .inr ⟨w.heap.size, 4, _, rfl, Nat.le_refl _, heap_alloc_last w _, Nat.le_refl _, by decide, rfl, rfl⟩⟩
theorem add_zero' (g k : Nat) : (⟨g, 0, none⟩ : Addr).add k = ⟨g, k, none⟩ := by unfold Addr.add; split <;> simp_all
theorem wn_one (x : W32) : wn [x] = [x.toNat] := rfl
theorem Rd.i64 {w : World} {ad : Addr} {n c : Nat} {l : List W32} (h : Rd w (.slice (some ad) n c) (intsV (wn l))) (j : Nat) (hj : j < l.length) : w.cell? (ad.add j) = some (.int .i64 ((l.getD j 0).toNat : Int)) := by
  obtain ⟨ad', e, hc⟩ := h.num j (by rw [wn_len]; exact hj)
  injection e with e
  subst e
  rw [hc, wn_at l j hj]
theorem tel_takes (l : List W32) (k : Nat) (h : k < l.length) (x : W32) (hx : l.getD k 0 = x) : bytesV (tel (l.take (k + 1))) = bytesV (tel (l.take k)) ++ bytesV (tel1 x) := by
  rw [tel_succ l k h, bytesV_app, hx]

set_option maxHeartbeats 8000000 in
theorem rblock_any (v0 v2 : Value) (key : List UInt8) (hk : key.length = 32) (n : W32) (nonce : List UInt8) (hn : nonce.length = 12) (w : World) (h0 : Rd w v0 (bytesV key)) (h2 : Rd w v2 (bytesV nonce)) :
    Calls Try.prog 14 #[v0, .int .i64 (n.toNat : Int), v2] w (Out w (blok key n nonce)) := by
  have HK := Lib.hid hk
  have HN := Lib.hid hn
  have H0 := Lib.hid h0
  have H2 := Lib.hid h2
  have HBL := Lib.hid (show blok key n nonce = tel (lastW key n nonce) from rfl)
  have HLW := Lib.hid (show lastW key n nonce = List.zipWith (· + ·) (allQs 10 (firstW key n nonce)) (firstW key n nonce) from rfl)
  have HFW := Lib.hid (show intsV (wn (firstW key n nonce)) = intsV (wn sigma) ++ (intsV (wn (lewords key 8)) ++ (intsV [n.toNat] ++ intsV (wn (lewords nonce 3)))) by
    unfold firstW
    rw [wn_app, wn_app, wn_app, intsV_app, intsV_app, intsV_app, wn_one, List.append_assoc, List.append_assoc])
  have HFL := Lib.hid (firstW_len key n nonce)
  have hnlt := n.isLt
  clear hk hn h0 h2
  go_enter Try.func14, Try.ntmps14
  go_wp2_with fail
  have HG0 := Lib.hid (grown_alloc (grown_refl w none) (.cells #[.int .i64 1634760805, .int .i64 857760878, .int .i64 2036477234, .int .i64 1797285236] 3))
  have HO0 := Lib.hid (own_sigma w)
  refine (rwords_any _ key 8 (by rw [HK.out]) (by decide) (by decide) _ (H0.out.grown0 HG0.out)).mono ?_
  rintro e w1 ⟨u1, rfl, hr1, hg1⟩
  have HO1 := Lib.hid (own_keepI HO0.out hg1)
  have HG1 := Lib.hid (HG0.out.trans hg1)
  have HR1 := Lib.hid hr1
  clear hr1 hg1 HO0 HG0
  go_wp2_with (at_builtin; refine wpList_append_ints _ rfl _ _ rfl w.heap.size _ 4 _ rfl HO1.out _ (wn (lewords key 8)) rfl HR1.out ?_ ?_ ?_)
  · rw [wn_len, lewords_len]; decide
  · exact HG1.out.size
  intro v3 w3 ho3 hg3 _
  rw [wn_len, lewords_len] at ho3
  have HO3 := Lib.hid ho3
  have HG3 := Lib.hid (grown_app HG1.out HO1.out hg3)
  clear ho3 hg3 HO1 HG1 HR1
  have HOA := Lib.hid (own_keepI HO3.out (grown_alloc (grown_refl _ none) (.cells #[.int .i64 (n.toNat : Int)] 3)))
  have HGA := Lib.hid (grown_alloc HG3.out (.cells #[.int .i64 (n.toNat : Int)] 3))
  go_wp2_with (at_builtin; refine wpList_append_ints _ rfl _ _ rfl w.heap.size _ (4 + 8) _ rfl HOA.out _ [n.toNat] rfl (Rd.one w3 (intV n.toNat) 3) ?_ ?_ ?_)
  · simp
  · exact HGA.out.size
  intro v4 w4 ho4 hg4 _
  have HO4 := Lib.hid ho4
  have HG4 := Lib.hid (grown_app HGA.out HOA.out hg4)
  clear ho4 hg4 HOA HGA HO3 HG3
  go_wp2_with fail
  refine (rwords_any _ nonce 3 (by rw [HN.out]) (by decide) (by decide) _ (H2.out.grown0 HG4.out)).mono ?_
  rintro e w5 ⟨u5, rfl, hr5, hg5⟩
  have HO5 := Lib.hid (own_keepI HO4.out hg5)
  have HG5 := Lib.hid (HG4.out.trans hg5)
  have HR5 := Lib.hid hr5
  clear hr5 hg5 HO4 HG4
  go_wp2_with (at_builtin; refine wpList_append_ints _ rfl _ _ rfl w.heap.size _ _ _ rfl HO5.out _ (wn (lewords nonce 3)) rfl HR5.out ?_ ?_ ?_)
  · rw [wn_len, lewords_len]; decide
  · exact HG5.out.size
  intro v6 w6 ho6 hg6 _
  rw [wn_len, lewords_len, ← HFW.out] at ho6
  replace ho6 : w6.ownsRow w.heap.size 3 1 v6 16 (intsV (wn (firstW key n nonce))) := ho6
  have hrs := Rd.of_own ho6
  have HG6 := Lib.hid (grown_app HG5.out HO5.out hg6)
  clear hg6 HO5 HG5 HR5 HFW H0 H2
  obtain ⟨_, ⟨rfl, h16⟩ | ⟨g6, cap6, cur6, rfl, _, _, _, _, _, _⟩⟩ := ho6
  · exact absurd h16 (by decide)
  generalize hF : firstW key n nonce = F at *
  have HRS := Lib.hid (show Rd w6 (.slice (some ⟨g6, 0, none⟩) 16 cap6) (intsV (wn F)) from hrs)
  clear hF hrs
  go_wp2
  go_loopw [8, 9] (fun u i W => ∃ (k g cap : Nat), k ≤ 10 ∧ i = .int .i64 k ∧ u = .slice (some ⟨g, 0, none⟩) 16 cap ∧ Rd W u (intsV (wn (allQs k F))) ∧ Rd W (.slice (some ⟨g6, 0, none⟩) 16 cap6) (intsV (wn F)) ∧ w.grownBy W none) (fun _ i _ => 10 - (intOf i).toNat)
  case atStart => exact ⟨0, g6, cap6, Nat.zero_le _, rfl, rfl, HRS.out, HRS.out, HG6.out⟩
  case round =>
    clear HRS HG6
    obtain ⟨k, g, cap, hk, rfl, rfl, hr, hrf, hg⟩ := hrel
    have HR := Lib.hid hr
    have HRF := Lib.hid hrf
    have HG := Lib.hid hg
    have HSL := Lib.hid (show (allQs k F).length = 16 by rw [allQs_len, HFL.out])
    clear hr hrf hg
    by_cases hlt : k < 10
    · have HNX := Lib.hid (show allQs (k + 1) F = allQ (allQs k F) from rfl)
      have HAL := Lib.hid (show ∀ s, allQ s = qAt (qAt (qAt (qAt (qAt (qAt (qAt (qAt s 0 4 8 12) 1 5 9 13) 2 6 10 14) 3 7 11 15) 0 5 10 15) 1 6 11 12) 2 7 8 13) 3 4 9 14 from fun _ => rfl)
      rw [HAL.out] at HNX
      have HKK := Lib.hid (And.intro hk hlt)
      have hdec : decide ((k : Int) < 10) = true := by simp; omega
      clear hlt
      generalize allQs k F = S0 at *
      have HL0 := HSL
      have HR0 := HR
      have HF0 := HRF
      have HG0 := HG
      clear HR HRF HG HSL HAL
      go_wp2_with fail
      refine (rquarter_any _ S0 0 4 8 12 ⟨by decide, by decide, by decide, by decide, by decide, by decide⟩ (by rw [HL0.out]; decide) (by rw [HL0.out]; decide) (by rw [HL0.out]; decide) (by rw [HL0.out]; decide) (by rw [HL0.out]; decide) _ HR0.out).mono ?_
      rintro e x1 ⟨g1, cap1, rfl, hr, hg, _⟩
      have HL1 := Lib.hid (show (qAt S0 0 4 8 12).length = 16 by rw [qAt_len, HL0.out])
      have hl : (wn (qAt S0 0 4 8 12)).length = 16 := by rw [wn_len, HL1.out]
      rw [hl] at hr
      rw [hl]
      have HR1 := Lib.hid hr
      have HF1 := Lib.hid (HF0.out.grown0 hg)
      have HG1 := Lib.hid (HG0.out.trans hg)
      clear hr hg hl HR0 HF0 HG0 HL0
      generalize qAt S0 0 4 8 12 = S1 at *
      go_wp2_with fail
      refine (rquarter_any _ S1 1 5 9 13 ⟨by decide, by decide, by decide, by decide, by decide, by decide⟩ (by rw [HL1.out]; decide) (by rw [HL1.out]; decide) (by rw [HL1.out]; decide) (by rw [HL1.out]; decide) (by rw [HL1.out]; decide) _ HR1.out).mono ?_
      rintro e x2 ⟨g2, cap2, rfl, hr, hg, _⟩
      have HL2 := Lib.hid (show (qAt S1 1 5 9 13).length = 16 by rw [qAt_len, HL1.out])
      have hl : (wn (qAt S1 1 5 9 13)).length = 16 := by rw [wn_len, HL2.out]
      rw [hl] at hr
      rw [hl]
      have HR2 := Lib.hid hr
      have HF2 := Lib.hid (HF1.out.grown0 hg)
      have HG2 := Lib.hid (HG1.out.trans hg)
      clear hr hg hl HR1 HF1 HG1 HL1
      generalize qAt S1 1 5 9 13 = S2 at *
      go_wp2_with fail
      refine (rquarter_any _ S2 2 6 10 14 ⟨by decide, by decide, by decide, by decide, by decide, by decide⟩ (by rw [HL2.out]; decide) (by rw [HL2.out]; decide) (by rw [HL2.out]; decide) (by rw [HL2.out]; decide) (by rw [HL2.out]; decide) _ HR2.out).mono ?_
      rintro e x3 ⟨g3, cap3, rfl, hr, hg, _⟩
      have HL3 := Lib.hid (show (qAt S2 2 6 10 14).length = 16 by rw [qAt_len, HL2.out])
      have hl : (wn (qAt S2 2 6 10 14)).length = 16 := by rw [wn_len, HL3.out]
      rw [hl] at hr
      rw [hl]
      have HR3 := Lib.hid hr
      have HF3 := Lib.hid (HF2.out.grown0 hg)
      have HG3 := Lib.hid (HG2.out.trans hg)
      clear hr hg hl HR2 HF2 HG2 HL2
      generalize qAt S2 2 6 10 14 = S3 at *
      go_wp2_with fail
      refine (rquarter_any _ S3 3 7 11 15 ⟨by decide, by decide, by decide, by decide, by decide, by decide⟩ (by rw [HL3.out]; decide) (by rw [HL3.out]; decide) (by rw [HL3.out]; decide) (by rw [HL3.out]; decide) (by rw [HL3.out]; decide) _ HR3.out).mono ?_
      rintro e x4 ⟨g4, cap4, rfl, hr, hg, _⟩
      have HL4 := Lib.hid (show (qAt S3 3 7 11 15).length = 16 by rw [qAt_len, HL3.out])
      have hl : (wn (qAt S3 3 7 11 15)).length = 16 := by rw [wn_len, HL4.out]
      rw [hl] at hr
      rw [hl]
      have HR4 := Lib.hid hr
      have HF4 := Lib.hid (HF3.out.grown0 hg)
      have HG4 := Lib.hid (HG3.out.trans hg)
      clear hr hg hl HR3 HF3 HG3 HL3
      generalize qAt S3 3 7 11 15 = S4 at *
      go_wp2_with fail
      refine (rquarter_any _ S4 0 5 10 15 ⟨by decide, by decide, by decide, by decide, by decide, by decide⟩ (by rw [HL4.out]; decide) (by rw [HL4.out]; decide) (by rw [HL4.out]; decide) (by rw [HL4.out]; decide) (by rw [HL4.out]; decide) _ HR4.out).mono ?_
      rintro e x5 ⟨g5, cap5, rfl, hr, hg, _⟩
      have HL5 := Lib.hid (show (qAt S4 0 5 10 15).length = 16 by rw [qAt_len, HL4.out])
      have hl : (wn (qAt S4 0 5 10 15)).length = 16 := by rw [wn_len, HL5.out]
      rw [hl] at hr
      rw [hl]
      have HR5 := Lib.hid hr
      have HF5 := Lib.hid (HF4.out.grown0 hg)
      have HG5 := Lib.hid (HG4.out.trans hg)
      clear hr hg hl HR4 HF4 HG4 HL4
      generalize qAt S4 0 5 10 15 = S5 at *
      go_wp2_with fail
      refine (rquarter_any _ S5 1 6 11 12 ⟨by decide, by decide, by decide, by decide, by decide, by decide⟩ (by rw [HL5.out]; decide) (by rw [HL5.out]; decide) (by rw [HL5.out]; decide) (by rw [HL5.out]; decide) (by rw [HL5.out]; decide) _ HR5.out).mono ?_
      rintro e x6 ⟨g6, cap6, rfl, hr, hg, _⟩
      have HL6 := Lib.hid (show (qAt S5 1 6 11 12).length = 16 by rw [qAt_len, HL5.out])
      have hl : (wn (qAt S5 1 6 11 12)).length = 16 := by rw [wn_len, HL6.out]
      rw [hl] at hr
      rw [hl]
      have HR6 := Lib.hid hr
      have HF6 := Lib.hid (HF5.out.grown0 hg)
      have HG6 := Lib.hid (HG5.out.trans hg)
      clear hr hg hl HR5 HF5 HG5 HL5
      generalize qAt S5 1 6 11 12 = S6 at *
      go_wp2_with fail
      refine (rquarter_any _ S6 2 7 8 13 ⟨by decide, by decide, by decide, by decide, by decide, by decide⟩ (by rw [HL6.out]; decide) (by rw [HL6.out]; decide) (by rw [HL6.out]; decide) (by rw [HL6.out]; decide) (by rw [HL6.out]; decide) _ HR6.out).mono ?_
      rintro e x7 ⟨g7, cap7, rfl, hr, hg, _⟩
      have HL7 := Lib.hid (show (qAt S6 2 7 8 13).length = 16 by rw [qAt_len, HL6.out])
      have hl : (wn (qAt S6 2 7 8 13)).length = 16 := by rw [wn_len, HL7.out]
      rw [hl] at hr
      rw [hl]
      have HR7 := Lib.hid hr
      have HF7 := Lib.hid (HF6.out.grown0 hg)
      have HG7 := Lib.hid (HG6.out.trans hg)
      clear hr hg hl HR6 HF6 HG6 HL6
      generalize qAt S6 2 7 8 13 = S7 at *
      go_wp2_with fail
      refine (rquarter_any _ S7 3 4 9 14 ⟨by decide, by decide, by decide, by decide, by decide, by decide⟩ (by rw [HL7.out]; decide) (by rw [HL7.out]; decide) (by rw [HL7.out]; decide) (by rw [HL7.out]; decide) (by rw [HL7.out]; decide) _ HR7.out).mono ?_
      rintro e x8 ⟨g8, cap8, rfl, hr, hg, _⟩
      have HL8 := Lib.hid (show (qAt S7 3 4 9 14).length = 16 by rw [qAt_len, HL7.out])
      have hl : (wn (qAt S7 3 4 9 14)).length = 16 := by rw [wn_len, HL8.out]
      rw [hl] at hr
      rw [hl]
      have HR8 := Lib.hid hr
      have HF8 := Lib.hid (HF7.out.grown0 hg)
      have HG8 := Lib.hid (HG7.out.trans hg)
      clear hr hg hl HR7 HF7 HG7 HL7
      generalize qAt S7 3 4 9 14 = S8 at *
      go_wp2
      go_roundw
      case rel => exact ⟨k + 1, g8, cap8, by have := HKK.out.2; omega, by go_num, rfl, by rw [HNX.out]; exact HR8.out, HF8.out, HG8.out⟩
      case measure => have := HKK.out.2; simp [intOf]; omega
    · have hk10 : allQs k F = allQs 10 F := by rw [show k = 10 by omega]
      rw [hk10] at HR HSL
      clear hk10
      generalize allQs 10 F = L at *
      generalize hZ : List.zipWith (· + ·) L F = Z at *
      have HZ := Lib.hid hZ
      have HZL := Lib.hid (show Z.length = 16 by rw [← hZ, List.length_zipWith, HSL.out, HFL.out]; rfl)
      clear hZ
      have hdec : decide ((k : Int) < 10) = false := by simp; omega
      clear hlt hk
      go_wp2
      clear hdec
      have hwn := n.isLt
      go_loopw [10, 11] (fun u i W => ∃ q : Nat, q ≤ 16 ∧ i = .int .i64 q ∧ W.ownsRow w.heap.size 5 1 u (4 * q) (bytesV (tel (Z.take q))) ∧ Rd W (.slice (some ⟨g, 0, none⟩) 16 cap) (intsV (wn L)) ∧ Rd W (.slice (some ⟨g6, 0, none⟩) 16 cap6) (intsV (wn F)) ∧ w.grownBy W none ∧ (∀ b, u.ownBlock = some b → b ≠ g ∧ b ≠ g6 ∧ b < W.heap.size) ∧ g < W.heap.size ∧ g6 < W.heap.size) (fun _ i _ => 16 - (intOf i).toNat)
      case atStart =>
        have hlg : g < wr.heap.size := by
          have := World.block_lt_of_cell? wr _ (HR.out.i64 0 (by rw [HSL.out]; decide))
          rwa [add_block] at this
        have hlg6 : g6 < wr.heap.size := by
          have := World.block_lt_of_cell? wr _ (HRF.out.i64 0 (by rw [HFL.out]; decide))
          rwa [add_block] at this
        exact ⟨0, Nat.zero_le _, rfl, World.ownsRow_nil _ _ _ _, HR.out, HRF.out, HG.out, (fun b hb => by cases hb), hlg, hlg6⟩
      case round =>
        clear HR HRF HG
        obtain ⟨q, hq, rfl, ho, hrl, hrf, hgr, hne, hlg, hlg6⟩ := hrel
        have HO := Lib.hid ho
        have HRL := Lib.hid hrl
        have HRF := Lib.hid hrf
        have HGR := Lib.hid hgr
        have HNE := Lib.hid (And.intro hne (And.intro hlg hlg6))
        clear ho hgr hne hlg hlg6
        by_cases hlt : q < 16
        · have c1 := hrl.i64 q (by rw [HSL.out]; exact hlt)
          have c2 := hrf.i64 q (by rw [HFL.out]; exact hlt)
          have hx : Z.getD q 0 = L.getD q 0 + F.getD q 0 := by rw [← HZ.out]; exact zip_getD L F q (by rw [HSL.out]; exact hlt) (by rw [HFL.out]; exact hlt)
          generalize L.getD q 0 = x at *
          generalize F.getD q 0 = y at *
          obtain ⟨z, hz⟩ : ∃ z, z = x + y := ⟨_, rfl⟩
          rw [← hz] at hx
          have HT := Lib.hid (tel_takes Z q (by rw [HZL.out]; exact hlt) z hx)
          have HTB := Lib.hid (tel1_bytes z)
          obtain ⟨N, hN⟩ : ∃ N, N = x.toNat + y.toNat := ⟨_, rfl⟩
          have hw : IntKind.i64.wrap ((x.toNat : Int) + (y.toNat : Int)) = (N : Int) := by
            have := x.isLt
            have := y.isLt
            rw [IntKind.wrap_i64, hN]
            omega
          have HC1 := Lib.hid (fun V => (show Calls Try.prog 19 #[.int .i64 (N : Int)] V fun e w' => e = .returned (.int .i64 (z.toNat : Int)) ∧ w' = V from (rword_any N (by have := x.isLt; have := y.isLt; omega) V).mono fun e w' h => ⟨by rw [h.1, hz, BitVec.toNat_add, hN], h.2⟩))
          have iq : (q : Int) < 16 := by omega
          have hzl := z.isLt
          have HKK := Lib.hid (And.intro hq hlt)
          have hdec : decide ((q : Int) < 16) = true := by simp; omega
          clear hz hN hx hlt hrl hrf
          go_wp2
          refine wp_region_still_tail 10 (by kernel_rfl) (by kernel_rfl) ?_
          change wpStill _ _ wr.drew (fun a' => wpList _ _ _ _ a' wr.drew) _ _
          have k1 : wr.drew.cell? ⟨g, q, none⟩ = some (.int .i64 (x.toNat : Int)) := add_zero' g q ▸ c1
          have k2 : wr.drew.cell? ⟨g6, q, none⟩ = some (.int .i64 (y.toNat : Int)) := add_zero' g6 q ▸ c2
          have HO' := Lib.hid (own_drew HO.out)
          have HRL' := Lib.hid HRL.out.drew
          have HRF' := Lib.hid HRF.out.drew
          have HGR' := Lib.hid (grown_drew HGR.out)
          have HNE' := Lib.hid (show (∀ b, u10.ownBlock = some b → b ≠ g ∧ b ≠ g6 ∧ b < wr.drew.heap.size) ∧ g < wr.drew.heap.size ∧ g6 < wr.drew.heap.size from HNE.out)
          clear HO HRL HRF HGR HNE c1 c2
          generalize wr.drew = V at *
          simp only [List.take_succ_cons, List.take_zero, List.drop_succ_cons, List.drop_zero]
          repeat still_step
          still_call (HC1.out V)
          repeat still_step
          refine wpStill_nil ?_
          clear k1 k2 hw HC1
          have HOA := Lib.hid (own_keepI HO'.out (grown_alloc (grown_refl _ none) (.cells #[.int .u8 ((z.toNat : Int) % 256), .int .u8 ((z.toNat : Int) / 256 % 256), .int .u8 ((z.toNat : Int) / 65536 % 256), .int .u8 ((z.toNat : Int) / 16777216)] 5)))
          have HGA := Lib.hid (grown_alloc HGR'.out (.cells #[.int .u8 ((z.toNat : Int) % 256), .int .u8 ((z.toNat : Int) / 256 % 256), .int .u8 ((z.toNat : Int) / 65536 % 256), .int .u8 ((z.toNat : Int) / 16777216)] 5))
          have HGV := Lib.hid (grown_alloc (grown_refl V none) (.cells #[.int .u8 ((z.toNat : Int) % 256), .int .u8 ((z.toNat : Int) / 256 % 256), .int .u8 ((z.toNat : Int) / 65536 % 256), .int .u8 ((z.toNat : Int) / 16777216)] 5))
          have HRB := Lib.hid (show Rd (V.alloc (.cells #[.int .u8 ((z.toNat : Int) % 256), .int .u8 ((z.toNat : Int) / 256 % 256), .int .u8 ((z.toNat : Int) / 65536 % 256), .int .u8 ((z.toNat : Int) / 16777216)] 5)) (.slice (some ⟨V.heap.size, 0, none⟩) 4 4) (bytesV (tel1 z)) by
            rw [HTB.out]
            exact (Row.new V 5 [_, _, _, _]).rdp 4 rfl (by decide))
          go_wp2_with (at_builtin; refine wpList_append_bytes _ rfl _ _ rfl w.heap.size _ (4 * q) _ rfl HOA.out _ (tel1 z) rfl HRB.out ?_ ?_ ?_)
          · have := HKK.out.2; simp [tel1]; omega
          · exact HGA.out.size
          intro v' w' ho' hg' hv'
          rw [← HT.out, show 4 * q + (tel1 z).length = 4 * (q + 1) by simp [tel1]; omega] at ho'
          have hgV := HGV.out
          have hn1 := HNE'.out.1
          have hn2 := HNE'.out.2
          have HO2 := Lib.hid ho'
          have HG2 := Lib.hid (grown_app HGA.out HOA.out hg')
          have HL2 := Lib.hid ((HRL'.out.grown0 hgV).grown hg' (fun b hb e => by cases hb; exact (hn1 g e.symm).1 rfl))
          have HF2 := Lib.hid ((HRF'.out.grown0 hgV).grown hg' (fun b hb e => by cases hb; exact (hn1 g6 e.symm).2.1 rfl))
          have hs1 := hgV.size
          have hs2 := hg'.size
          have HN2 := Lib.hid (show (∀ b, v'.ownBlock = some b → b ≠ g ∧ b ≠ g6 ∧ b < w'.heap.size) ∧ g < w'.heap.size ∧ g6 < w'.heap.size from ⟨fun b hb => by
            rcases hv' with e | e
            · rw [e] at hb
              have := hn1 b hb
              omega
            · rw [e] at hb
              cases hb
              refine ⟨by omega, by omega, ?_⟩
              rcases ho'.2 with ⟨rfl, _⟩ | ⟨gg, cc, cur, rfl, _, hcells, _⟩
              · cases e
              · injection e with e
                simp only at e
                rw [← e]
                exact (Array.getElem?_eq_some_iff.1 hcells).1, by omega, by omega⟩)
          clear ho' hg' hv' hgV hn1 hn2 hs1 hs2 HOA HGA HGV HRB HO' HRL' HRF' HGR' HNE'
          go_wp2
          go_roundw
          case rel => exact ⟨q + 1, by have := HKK.out.2; omega, by go_num, HO2.out, HL2.out, HF2.out, HG2.out, HN2.out.1, HN2.out.2.1, HN2.out.2.2⟩
          case measure => have := HKK.out.2; simp [intOf]; omega
        · have h16 : tel (Z.take q) = blok key n nonce := by rw [HBL.out, HLW.out, List.take_of_length_le (by rw [HZL.out]; omega)]
          rw [h16] at HO
          have hdec : decide ((q : Int) < 16) = false := by simp; omega
          clear h16 hlt hq hrl hrf
          go_wp2
          go_ret
          exact ⟨_, rfl, Rd.of_own HO.out, HGR.out, fun b hb => by
            rcases HO.out.2 with ⟨rfl, _⟩ | ⟨gg, cc, cur, rfl, hbase, hcells, _⟩
            · cases hb
            · cases hb; exact ⟨hbase, (Array.getElem?_eq_some_iff.1 hcells).1⟩⟩
end Go.Proofs.Ytmhpnddelebjdaa
