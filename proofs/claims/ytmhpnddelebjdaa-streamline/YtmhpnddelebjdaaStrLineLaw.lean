/-
  The law StreamLine, walked.
-/
import Derived.Test.YtmhpnddelebjdaaStrOps
namespace Go.Proofs.Ytmhpnddelebjdaa
open Go.RowKit

/-- Two rows, xored as far as place k, noughts behind. -/
def bothK (a b : List UInt8) (k : Nat) : List UInt8 := (List.range a.length).map fun i => if i < k then a.getD i 0 ^^^ b.getD i 0 else 0
theorem bothK_len (a b : List UInt8) (k : Nat) : (bothK a b k).length = a.length := by simp [bothK]
theorem bothK_at (a b : List UInt8) (k i : Nat) (h : i < a.length) : (bothK a b k)[i]? = some (if i < k then a.getD i 0 ^^^ b.getD i 0 else 0) := by simp [bothK, h]
theorem bothK_zero (a b : List UInt8) : bothK a b 0 = List.replicate a.length 0 := by
  apply List.ext_getElem?
  intro i
  by_cases h : i < a.length
  · rw [bothK_at _ _ _ _ h, if_neg (by omega)]
    simp [h]
  · rw [List.getElem?_eq_none (by rw [bothK_len]; omega), List.getElem?_eq_none (by simp; omega)]
theorem bothK_succ (a b : List UInt8) (k : Nat) (h : k < a.length) : (bothK a b k).set k (a.getD k 0 ^^^ b.getD k 0) = bothK a b (k + 1) := by
  apply List.ext_getElem?
  intro i
  by_cases hi : i < a.length
  · rw [List.getElem?_set, bothK_at _ _ _ _ hi, bothK_at _ _ _ _ hi, bothK_len]
    by_cases he : k = i
    · subst he
      rw [if_pos rfl, if_pos h, if_pos (by omega)]
    · rw [if_neg he]
      by_cases h1 : i < k
      · rw [if_pos h1, if_pos (by omega)]
      · rw [if_neg h1, if_neg (by omega)]
  · rw [List.getElem?_eq_none (by simp [bothK_len]; omega), List.getElem?_eq_none (by rw [bothK_len]; omega)]
theorem bothK_next (a b : List UInt8) (k : Nat) (h : k < a.length) : (bothK a b k).getD k 0 = 0 := by
  rw [List.getD_eq_getElem?_getD, bothK_at _ _ _ _ h, if_neg (by omega)]
  rfl
theorem bothK_get (a b : List UInt8) (i : Nat) (h : i < a.length) : (bothK a b a.length).getD i 0 = a.getD i 0 ^^^ b.getD i 0 := by
  rw [List.getD_eq_getElem?_getD, bothK_at _ _ _ _ h, if_pos h]
  rfl
/-- Xoring is by place alone. -/
theorem line_at (key : List UInt8) (n : W32) (nonce a b : List UInt8) (i : Nat) (h : i < a.length) : (xs key n nonce (bothK a b a.length)).getD i 0 = (xs key n nonce a).getD i 0 ^^^ b.getD i 0 := by
  rw [xs_getD _ _ _ _ _ (by rw [bothK_len]; exact h), xs_getD _ _ _ _ _ h, bothK_get a b i h, UInt8.xor_assoc, UInt8.xor_assoc, UInt8.xor_comm (b.getD i 0)]

theorem Rd.lowB {w : World} {v : Value} {l : List UInt8} (h : Rd w v (bytesV l)) (hne : l ≠ []) : ∀ b, v.ownBlock = some b → b < w.heap.size := by
  obtain ⟨A, c, rfl⟩ := h.form
  intro b hb
  cases l with
  | nil => exact absurd rfl hne
  | cons x l =>
    obtain ⟨ad, rfl, hc⟩ := h.cells (by simp [bytesV])
    have := World.block_lt_of_cell? w _ (hc 0 _ rfl)
    rw [add_block] at this
    simp only [Value.ownBlock, Option.some.injEq] at hb
    omega
theorem bytesV_ne {l : List UInt8} (h : 0 < l.length) : bytesV l ≠ [] := by
  intro e
  have := congrArg List.length e
  rw [bytesV_len] at this
  simp at this
  subst this
  simp at h

set_option maxHeartbeats 8000000 in
theorem streamLine_walk (key : List UInt8) (hk : key.length = 32) (n : W32) (nonce : List UInt8) (hn : nonce.length = 12) (A3 : Option Addr) (m3 c3 : Nat) (a : List UInt8) (A4 : Option Addr) (m4 c4 : Nat) (b : List UInt8) (w : World) (hr3 : Rd w (.slice A3 m3 c3) (bytesV a)) (hr4 : Rd w (.slice A4 m4 c4) (bytesV b)) :
    Calls Try.prog 7 #[.agg (bytesV key).toArray, .int .u32 (n.toNat : Int), .agg (bytesV nonce).toArray, .slice A3 m3 c3, .slice A4 m4 c4] w (Awake w) := by
  have hal : a.length = m3 := by have := hr3.len.1; rwa [bytesV_len] at this
  have hbl : b.length = m4 := by have := hr4.len.1; rwa [bytesV_len] at this
  have HAL := Lib.hid hal
  have HBL := Lib.hid hbl
  have HK := Lib.hid hk
  have HN := Lib.hid hn
  have HKL := Lib.hid (show (bytesV key).length = 32 by rw [bytesV_len, hk])
  have HNL := Lib.hid (show (bytesV nonce).length = 12 by rw [bytesV_len, hn])
  generalize hG : w.heap.size = G
  have HG := Lib.hid hG
  obtain ⟨W0, hW0⟩ : ∃ W, (w.alloc (.cells (bytesV key).toArray 29)).alloc (.cells (bytesV nonce).toArray 30) = W := ⟨_, rfl⟩
  have R0 := Lib.hid (show Row W0 G 29 (bytesV key) by rw [← hW0]; exact (Row.newAt w _ (bytesV key) hG).alloc _)
  have R1 := Lib.hid (show Row W0 (G + 1) 30 (bytesV nonce) by rw [← hW0]; exact Row.newAt _ _ (bytesV nonce) (by simp [hG]))
  have HGR := Lib.hid (show w.grownBy W0 none by rw [← hW0]; exact grown_alloc (grown_alloc (grown_refl _ _) _) _)
  clear hk hn
  have HRA := Lib.hid (hr3.grown0 HGR.out)
  have HRB := Lib.hid (hr4.grown0 HGR.out)
  have hca := hr3.len.2
  have hcb := hr4.len.2
  unfold maxLen at hca hcb
  clear hr3 hr4 hal hbl
  by_cases hm : 300 < m3 ∨ m3 ≠ m4
  · have hdec : (decide (300 < (m3 : Int)) = true) ∨ (decide (300 < (m3 : Int)) = false ∧ (m3 != m4) = true) := by
      by_cases h1 : 300 < m3
      · exact .inl (by simp; omega)
      · exact .inr ⟨by simp; omega, by simp; omega⟩
    clear hm
    go_enter Try.func7, Try.ntmps7
    rcases hdec with h1 | ⟨h1, h2⟩
    · go_wp2_with (go_at_call 12; refine (awake_any _).mono ?_; rintro e w5 ⟨rfl, hg5⟩)
      go_ret
      exact ⟨rfl, HGR.out.trans hg5⟩
    · have h4 : ¬ m3 = m4 := by simpa using h2
      have h3 : ((m3 : Int) != (m4 : Int)) = true := by simp; omega
      go_wp2_with (go_at_call 12; refine (awake_any _).mono ?_; rintro e w5 ⟨rfl, hg5⟩)
      go_ret
      exact ⟨rfl, HGR.out.trans hg5⟩
  · have hm34 : m3 = m4 := by omega
    subst hm34
    have h1 : decide (300 < (m3 : Int)) = false := by simp; omega
    have hm5 : m3 ≤ 300 := by omega
    clear hm
    go_enter Try.func7, Try.ntmps7
    go_wp2_with (refine wpList_make_bytes _ rfl _ _ rfl m3 rfl rfl (by omega) ?_; intro w1 hr1 hg1)
    have R0a := Lib.hid (R0.out.grown0 hg1)
    have R1a := Lib.hid (R1.out.grown0 hg1)
    have HAa := Lib.hid (HRA.out.grown0 hg1)
    have HBa := Lib.hid (HRB.out.grown0 hg1)
    have HGa := Lib.hid (HGR.out.trans hg1)
    have HRW := Lib.hid hr1
    have HLT := Lib.hid (show w.heap.size ≤ W0.heap.size from HGR.out.size)
    have HGT := Lib.hid (show G + 1 < W0.heap.size from R1.out.lt)
    have HLA := Lib.hid (fun hne => HRA.out.lowB hne)
    have HLB := Lib.hid (fun hne => HRB.out.lowB hne)
    clear hr1 hg1 R0 R1 HRA HRB HGR hG hW0 h1
    generalize W0.heap.size = gB at *
    go_loopw [32] (fun v W => ∃ k : Nat, k ≤ m3 ∧ v = .int .i64 k ∧ Row W G 29 (bytesV key) ∧ Row W (G + 1) 30 (bytesV nonce) ∧ Row W gB 5 (bytesV (bothK a b k)) ∧ Rd W (.slice A3 m3 c3) (bytesV a) ∧ Rd W (.slice A4 m3 c4) (bytesV b) ∧ w.grownBy W none) (fun v _ => m3 - (intOf v).toNat)
    case atStart => exact ⟨0, Nat.zero_le _, rfl, R0a.out, R1a.out, by rw [bothK_zero, HAL.out]; exact HRW.out, HAa.out, HBa.out, HGa.out⟩
    case round =>
      clear R0a R1a HAa HBa HGa HRW
      obtain ⟨k, hk, rfl, r0, r1, rb, hra, hrb, hgr⟩ := hrel
      have R0 := Lib.hid r0
      have R1 := Lib.hid r1
      have RB := Lib.hid rb
      have HA := Lib.hid hra
      have HB := Lib.hid hrb
      have HGR := Lib.hid hgr
      by_cases hlt : k < m3
      · have hal := HAL.out
        have hbl := HBL.out
        obtain ⟨ad3, rfl, _⟩ := hra.cells (bytesV_ne (by omega))
        obtain ⟨ad4, rfl, _⟩ := hrb.cells (bytesV_ne (by omega))
        have c3' := hra.bytes k (by omega)
        have c4' := hrb.bytes k (by omega)
        have cB := rb.cell (bytesV_at (bothK a b k) k (by rw [bothK_len]; omega))
        rw [bothK_next a b k (by omega)] at cB
        have fB := rb.frozen k
        have had := add_at gB 0 k
        rw [Nat.zero_add] at had
        have HS := Lib.hid (bothK_succ a b k (by omega))
        have HX := Lib.hid (xor8 (a.getD k 0) (b.getD k 0))
        have b0 := UInt8.toNat_lt (a.getD k 0)
        have b1 := UInt8.toNat_lt (b.getD k 0)
        generalize a.getD k 0 = x at *
        generalize b.getD k 0 = y at *
        have hdec : decide (k < m3) = true := by simp; omega
        have HKK := Lib.hid (And.intro hk hlt)
        have hkI : (k : Int) < (m3 : Int) := by omega
        have HNEA := Lib.hid (show ∀ b, (Value.slice (some ad3) m3 c3).ownBlock = some b → some b ≠ some gB from fun bb hb e => by
          have := HLA.out (by intro e2; rw [e2] at hal; simp at hal; omega) bb hb
          cases e
          omega)
        have HNEB := Lib.hid (show ∀ b, (Value.slice (some ad4) m3 c4).ownBlock = some b → some b ≠ some gB from fun bb hb e => by
          have := HLB.out (by intro e2; rw [e2] at hbl; simp at hbl; omega) bb hb
          cases e
          omega)
        clear hal hbl r0 r1 rb hra hrb hgr hlt
        go_wp2
        go_region
        go_wp2
        rw [HX.out]
        go_roundw
        case rel =>
          have hgt := HGT.out
          refine ⟨k + 1, by have := HKK.out.2; omega, by go_num, R0.out.other (by omega) _, R1.out.other (by omega) _, ?_, ?_, ?_, grown_drew (grown_own HGR.out (grown_set wr gB k _) HLT.out)⟩
          · rw [← HS.out, ← bytesV_set]
            exact RB.out.set k _
          · exact Rd.drew (HA.out.grown (grown_set wr gB k _) HNEA.out)
          · exact Rd.drew (HB.out.grown (grown_set wr gB k _) HNEB.out)
        case measure => have := HKK.out.2; simp [intOf]; omega
      · have hkm : bothK a b k = bothK a b a.length := by rw [show k = a.length by rw [HAL.out]; omega]
        rw [hkm] at RB
        have hdec : decide (k < m3) = false := by simp; omega
        obtain ⟨XA, hXA⟩ : ∃ X, xs key n nonce a = X := ⟨_, rfl⟩
        obtain ⟨XB, hXB⟩ : ∃ X, xs key n nonce (bothK a b a.length) = X := ⟨_, rfl⟩
        have HXL := Lib.hid (show XA.length = m3 by rw [← hXA, xs_len, HAL.out])
        have HBX := Lib.hid (show XB.length = m3 by rw [← hXB, xs_len, bothK_len, HAL.out])
        have HLINE := Lib.hid (show ∀ i, i < m3 → XB.getD i 0 = XA.getD i 0 ^^^ b.getD i 0 from fun i hi => by rw [← hXA, ← hXB]; exact line_at key n nonce a b i (by rw [HAL.out]; exact hi))
        have HXA := Lib.hid hXA
        have HXB := Lib.hid hXB
        have HBB := Lib.hid (show Rd wr (.slice (some ⟨gB, 0, none⟩) m3 m3) (bytesV (bothK a b a.length)) from RB.out.rds m3 m3 (by rw [bytesV_len, bothK_len, HAL.out]) (Nat.le_refl _) (by unfold maxLen; omega))
        have HBBL := Lib.hid (show (bothK a b a.length).length ≤ 100000000000 by rw [bothK_len, HAL.out]; omega)
        have HABL := Lib.hid (show a.length ≤ 100000000000 by rw [HAL.out]; omega)
        clear hkm hXA hXB r0 r1 rb hra hrb hgr hlt hk
        go_wp2
        generalize bothK a b a.length = BB at *
        refine wp_region_walk3 12 [] dis_nil (by kernel_rfl) (by kernel_rfl) (by kernel_rfl) ?_
        simp only [List.take_succ_cons, List.take_zero, List.drop_succ_cons, List.drop_zero]
        refine Walk.val (G := Is (.agg (bytesV key).toArray)) (stays_is _ _) rfl rfl (fun a1 w hm hd => ⟨wanted_plain rfl, _, ex_load_row rfl G 29 _ _ (by rw [hm.outer 5 (by kernel_rfl)]; rfl) (R0.out.grown0 hm.grow.none2) Try.underlying29 rfl (by rw [HKL.out]; kernel_rfl), rfl⟩) ?_
        refine Walk.val (G := Is (.int .u32 (n.toNat : Int))) (stays_is _ _) rfl rfl (fun a1 w hm hd => ⟨wanted_plain rfl, _, ex_move rfl, by rw [hm.outer 1 (by kernel_rfl)]; rfl⟩) ?_
        refine Walk.val (G := Is (.agg (bytesV nonce).toArray)) (stays_is _ _) rfl rfl (fun a1 w hm hd => ⟨wanted_plain rfl, _, ex_load_row rfl (G + 1) 30 _ _ (by rw [hm.outer 7 (by kernel_rfl)]; rfl) (R1.out.grown0 hm.grow.none2) Try.underlying30 rfl (by rw [HNL.out]; kernel_rfl), rfl⟩) ?_
        refine Walk.val (G := IsB BB) (fun _ _ _ _ _ h hg => Rd.grown0 h hg) rfl rfl (fun a1 w hm hd => ⟨wanted_plain rfl, _, ex_move rfl, (by rw [hm.outer 11 (by kernel_rfl)]; exact HBB.out.grown0 hm.grow.none2)⟩) ?_
        refine Walk.call (G := IsX XB) (fun _ _ _ _ _ h hg => lasts_x _ _ _ _ h hg) rfl 16 rfl (fun a1 w hm _ hd => ⟨wanted_plain rfl, _, ex_call4 Try.func16 (by kernel_rfl) (by kernel_rfl) rfl, by
          rw [show a1.eval (.tmp 48) = _ from hd.at_ 0 rfl rfl rfl rfl, show a1.eval (.tmp 49) = _ from hd.at_ 1 rfl rfl rfl rfl, show a1.eval (.tmp 50) = _ from hd.at_ 2 rfl rfl rfl rfl]
          have hx : IsB BB (a1.eval (.tmp 51)) w := hd.at_ 3 rfl rfl rfl rfl
          rw [← HXB.out]
          exact xor_at key HK.out n nonce HN.out _ BB w hx HBBL.out⟩) ?_
        refine Walk.val (G := Is (.agg (bytesV key).toArray)) (stays_is _ _) rfl rfl (fun a1 w hm hd => ⟨wanted_plain rfl, _, ex_load_row rfl G 29 _ _ (by rw [hm.outer 5 (by kernel_rfl)]; rfl) (R0.out.grown0 hm.grow.none2) Try.underlying29 rfl (by rw [HKL.out]; kernel_rfl), rfl⟩) ?_
        refine Walk.val (G := Is (.int .u32 (n.toNat : Int))) (stays_is _ _) rfl rfl (fun a1 w hm hd => ⟨wanted_plain rfl, _, ex_move rfl, by rw [hm.outer 1 (by kernel_rfl)]; rfl⟩) ?_
        refine Walk.val (G := Is (.agg (bytesV nonce).toArray)) (stays_is _ _) rfl rfl (fun a1 w hm hd => ⟨wanted_plain rfl, _, ex_load_row rfl (G + 1) 30 _ _ (by rw [hm.outer 7 (by kernel_rfl)]; rfl) (R1.out.grown0 hm.grow.none2) Try.underlying30 rfl (by rw [HNL.out]; kernel_rfl), rfl⟩) ?_
        refine Walk.val (G := IsB a) (fun _ _ _ _ _ h hg => Rd.grown0 h hg) rfl rfl (fun a1 w hm hd => ⟨wanted_plain rfl, _, ex_move rfl, (by rw [hm.outer 3 (by kernel_rfl)]; exact HA.out.grown0 hm.grow.none2)⟩) ?_
        refine Walk.call (G := IsX XA) (fun _ _ _ _ _ h hg => lasts_x _ _ _ _ h hg) rfl 16 rfl (fun a1 w hm _ hd => ⟨wanted_plain rfl, _, ex_call4 Try.func16 (by kernel_rfl) (by kernel_rfl) rfl, by
          rw [show a1.eval (.tmp 53) = _ from hd.at_ 5 rfl rfl rfl rfl, show a1.eval (.tmp 54) = _ from hd.at_ 6 rfl rfl rfl rfl, show a1.eval (.tmp 55) = _ from hd.at_ 7 rfl rfl rfl rfl]
          have hx : IsB a (a1.eval (.tmp 56)) w := hd.at_ 8 rfl rfl rfl rfl
          rw [← HXA.out]
          exact xor_at key HK.out n nonce HN.out _ a w hx HABL.out⟩) ?_
        refine Walk.val (G := IsX XB) (fun _ _ _ _ _ h hg => lasts_x _ _ _ _ h hg) rfl rfl (fun a1 w hm hd => ⟨wanted_plain rfl, _, ex_assign rfl, hd.at_ 4 rfl rfl rfl rfl⟩) ?_
        refine Walk.val (G := IsX XA) (fun _ _ _ _ _ h hg => lasts_x _ _ _ _ h hg) rfl rfl (fun a1 w hm hd => ⟨wanted_plain rfl, _, ex_assign rfl, hd.at_ 9 rfl rfl rfl rfl⟩) ?_
        intro a9 w7 hm7 hall
        have f13 : IsX XB (a9.eval (.tmp 13)) w7 := hall 10 _ _ rfl rfl
        have f14 : IsX XA (a9.eval (.tmp 14)) w7 := hall 11 _ _ rfl rfl
        obtain ⟨gx, hvx, hrx⟩ := f13
        obtain ⟨gy, hvy, hry⟩ := f14
        rw [HBX.out] at hvx
        rw [HXL.out] at hvy
        have hg7 : wr.grownBy w7 none := GrownX.none2 hm7.grow
        have hfr := hm7.frame
        simp only [List.take_succ_cons, List.take_zero, List.filterMap_cons, List.filterMap_nil, List.foldl_cons, List.foldl_nil] at hfr
        rw [hvx, hvy] at hfr
        have RX := Lib.hid hrx
        have RY := Lib.hid hry
        have HB7 := Lib.hid (HB.out.grown0 hg7)
        have HG7 := Lib.hid (HGR.out.trans hg7)
        rw [hfr]
        clear hvx hvy hrx hry hg7 hfr R0 R1 RB HA HB HGR HBB
        generalize a9.eval (.tmp 48) = e48
        generalize a9.eval (.tmp 49) = e49
        generalize a9.eval (.tmp 50) = e50
        generalize a9.eval (.tmp 51) = e51
        generalize a9.eval (.tmp 52) = e52
        generalize a9.eval (.tmp 53) = e53
        generalize a9.eval (.tmp 54) = e54
        generalize a9.eval (.tmp 55) = e55
        generalize a9.eval (.tmp 56) = e56
        generalize a9.eval (.tmp 57) = e57
        clear hm7 hall
        simp only [Act.put, List.setIfInBounds_toArray, List.set_cons_succ, List.set_cons_zero]
        go_wp2
        go_loopw [60] (fun v W => ∃ i : Nat, i ≤ m3 ∧ v = .int .i64 i ∧ Row W gx 5 (bytesV XB) ∧ Row W gy 5 (bytesV XA) ∧ Rd W (.slice A4 m3 c4) (bytesV b) ∧ w.grownBy W none) (fun v _ => m3 - (intOf v).toNat)
        case atStart => exact ⟨0, Nat.zero_le _, rfl, RX.out, RY.out, HB7.out, HG7.out⟩
        case round =>
          clear RX RY HB7 HG7 hdec
          obtain ⟨i, hi, rfl, rx, ry, hrb, hgr⟩ := hrel
          have RX := Lib.hid rx
          have RY := Lib.hid ry
          have HB := Lib.hid hrb
          have HGR := Lib.hid hgr
          by_cases hlt : i < m3
          · have hbl := HBL.out
            obtain ⟨ad4, rfl, _⟩ := hrb.cells (bytesV_ne (by omega))
            have cb := hrb.bytes i (by omega)
            have cx := rx.cell (bytesV_at XB i (by rw [HBX.out]; exact hlt))
            have cy := ry.cell (bytesV_at XA i (by rw [HXL.out]; exact hlt))
            rw [HLINE.out i hlt] at cx
            have hx := xor8 (XA.getD i 0) (b.getD i 0)
            have b0 := UInt8.toNat_lt (XA.getD i 0)
            have b1 := UInt8.toNat_lt (b.getD i 0)
            have b2 := UInt8.toNat_lt (XA.getD i 0 ^^^ b.getD i 0)
            generalize (XA.getD i 0 ^^^ b.getD i 0).toNat = zz at *
            generalize (XA.getD i 0).toNat = xx at *
            generalize (b.getD i 0).toNat = yy at *
            have hdec : decide (i < m3) = true := by simp; omega
            have HKK := Lib.hid (And.intro hi hlt)
            have hiI : (i : Int) < (m3 : Int) := by omega
            clear hbl rx ry hrb hgr hlt
            go_wp2
            go_quiet (fail)
            go_wp2
            go_roundw
            case rel => exact ⟨i + 1, by have := HKK.out.2; omega, by go_num, RX.out, RY.out, HB.out, grown_drewN HGR.out _⟩
            case measure => have := HKK.out.2; simp [intOf]; omega
          · have hdec : decide (i < m3) = false := by simp; omega
            clear rx ry hrb hgr hlt hi
            go_wp2_with (go_at_call 12; refine (awake_any _).mono ?_; rintro e w5 ⟨rfl, hg5⟩)
            go_ret
            exact ⟨rfl, HGR.out.trans hg5⟩
end Go.Proofs.Ytmhpnddelebjdaa
