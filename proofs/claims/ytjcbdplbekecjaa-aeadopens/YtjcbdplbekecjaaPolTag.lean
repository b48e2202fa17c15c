/-
  poly.Tag over this program.
-/
import Derived.Test.YtjcbdplbekecjaaPolMade
namespace Go.Proofs.Ytjcbdplbekecjaa
open Go.RowKit

def slen : Value → Nat
  | .slice _ n _ => n
  | _ => 0
/-- What is left of a slice behind so many. -/
theorem slice_rest {A : Option Addr} {n c : Nat} (sz : Nat) (hn : sz ≤ n) (hc : n ≤ c) (hm : c ≤ maxLen) : ∃ v' : Value, (∀ w, (Instr.sliceAt 24 (.slice A n c) (some (.int .i64 (sz : Int))) none none).run Try.prog w = .ok v' w) ∧ slen v' = n - sz ∧ ∀ (W : World) (xs : List Value), Rd W (.slice A n c) xs → Rd W v' (xs.drop sz) := by
  refine ⟨.slice (if c = sz then A else A.map (·.add sz)) (n - sz) (c - sz), ?_, rfl, ?_⟩
  · intro w
    simp [Instr.sliceAt, go_sem, Instr.sliceBounds, Instr.slice, run_underlying Try.underlying24]
    intro h
    omega
  · intro W xs h
    have hl := h.len.1
    by_cases hcs : c = sz
    · rw [if_pos hcs, show n - sz = 0 by omega, List.drop_of_length_le (by omega)]
      exact Rd.empty W A _ (by omega)
    · rw [if_neg hcs]
      exact h.drop hn

def blkB (b : List UInt8) (k : Nat) : List UInt8 := chunk b k ++ 1 :: List.replicate (16 - (chunk b k).length) 0
theorem blkB_len (b : List UInt8) (k : Nat) : (blkB b k).length = 17 := by
  have := chunk_len b k
  simp [blkB]
  omega
theorem le_blkB (b : List UInt8) (k : Nat) : le (blkB b k) = blk b k := by
  unfold blkB blk
  rw [le_app, show (1 :: List.replicate (16 - (chunk b k).length) 0 : List UInt8) = [1] ++ List.replicate (16 - (chunk b k).length) 0 from rfl, le_app, le_zeros]
  simp [le, byt, val]
theorem chunk_row (b : List UInt8) (k : Nat) : (splice (noughts8 17) 0 ((bytesV (b.drop (16 * k))).take 16)).set (min (b.drop (16 * k)).length 16) (.int .u8 1) = bytesV (blkB b k) := by
  have h1 : (bytesV (b.drop (16 * k))).take 16 = bytesV (chunk b k) := by simp [bytesV, chunk, List.map_take]
  have h2 : (chunk b k).length = min (b.drop (16 * k)).length 16 := by simp [chunk, Nat.min_comm]
  have h3 : (chunk b k).length ≤ 16 := by rw [chunk_len]; omega
  rw [h1, splice_zero, bytesV_len, ← h2]
  unfold noughts8 blkB
  rw [List.drop_replicate, show 17 - (chunk b k).length = (16 - (chunk b k).length) + 1 by omega, List.replicate_succ, bytesV_app, List.set_append_right _ _ (by rw [bytesV_len]; exact Nat.le_refl _), bytesV_len, Nat.sub_self, List.set_cons_zero]
  simp [bytesV, byteV]
theorem acc_next (R : Nat) (b : List UInt8) (k v : Nat) (h : v % PP = accAt R b k) : (v + blk b k) * R % PP = accAt R b (k + 1) := by
  show _ = (accAt R b k + blk b k) * R % PP
  rw [← h, Nat.mul_mod, Nat.mul_mod (v % PP + blk b k)]
  congr 2
  rw [Nat.mod_add_mod]

set_option maxHeartbeats 8000000 in
theorem tag_any (key : List UInt8) (hk : key.length = 32) (v : Value) (b : List UInt8) (w : World) (hr : Rd w v (bytesV b)) (hb : b.length ≤ 100000000000) :
    Calls Try.prog 25 #[.agg (bytesV key).toArray, v] w (Val (.agg (bytesV (tagB key b)).toArray) w) := by
  generalize hG : w.heap.size = G
  have HG := Lib.hid hG
  obtain ⟨W0, hW0⟩ : ∃ W, ((w.alloc (.cells (bytesV key).toArray 22)).alloc (.cells (noughts8 16).toArray 37)).alloc (.cells (noughts8 16).toArray 37) = W := ⟨_, rfl⟩
  have R0 := Lib.hid (show Row W0 G 22 (bytesV key) by rw [← hW0]; exact ((Row.newAt w _ (bytesV key) hG).alloc _).alloc _)
  have R1 := Lib.hid (show Row W0 (G + 1) 37 (noughts8 16) by rw [← hW0]; exact (Row.newAt _ _ (noughts8 16) (by simp [hG])).alloc _)
  have R2 := Lib.hid (show Row W0 (G + 1 + 1) 37 (noughts8 16) by rw [← hW0]; exact Row.newAt _ _ (noughts8 16) (by simp [hG]))
  have HGR := Lib.hid (show w.grownBy W0 none by rw [← hW0]; exact grown_alloc (grown_alloc (grown_alloc (grown_refl _ _) _) _) _)
  have HRV := Lib.hid (hr.grown0 HGR.out)
  simp only [noughts8, List.replicate] at hW0
  have HKL := Lib.hid (show (bytesV key).length = 32 by rw [bytesV_len, hk])
  have HKO := Lib.hid (fun x hx => bytesV_one key x hx)
  obtain ⟨w1, hrun, hr1, hg1⟩ := run_copy_gen (P := Try.prog) W0.drew 24 3 5 Try.underlying24 (by kernel_rfl) (G + 1 + 1) 0 16 16 _ (bytesV key) (R0.out.drew.rds 32 32 HKL.out (by decide) (by decide)) HKO.out (noughts8 16) 37 R2.out.drew (by decide)
  have htl : (key.take 16).length = 16 := by rw [List.length_take, hk]; rfl
  have he : splice (noughts8 16) 0 ((bytesV key).take 16) = bytesV (key.take 16) := by
    have hl : ((bytesV key).take 16).length = 16 := by rw [List.length_take, HKL.out]; rfl
    rw [splice_zero, hl]
    simp [bytesV, noughts8, List.map_take]
  rw [he] at hr1
  rw [HKL.out] at hrun
  have hrun' : (Builtin.copy_ #[24, 24] 3 #[.slice (some ⟨G + 1 + 1, 0, none⟩) 16 16, .slice (some ⟨G, 0, none⟩) 32 32]).run Try.prog W0.drew = .ok (.int .i64 16) w1 := hrun
  have Q0 := Lib.hid (R0.out.drew.grown hg1 (by simp; omega))
  have Q1 := Lib.hid (R1.out.drew.grown hg1 (by simp))
  have Q2 := Lib.hid hr1
  have hlt0 := R2.out.lt
  have HGQ := Lib.hid (grown_own (grown_drew HGR.out) hg1 (by have := HG.out; omega))
  have HV := Lib.hid hr
  have HTL := Lib.hid (show (bytesV (key.take 16)).length = 16 by rw [bytesV_len, htl])
  have HF := Lib.hid (fun w => factor_any (key.take 16) htl w)
  rw [clampB_take] at HF
  have hfac := digs_fac (le (clampB key)) (clamp_lt key)
  have HFAC := Lib.hid hfac
  have HRV5 := Lib.hid (valL_digs (le (clampB key)) (by have := clamp_lt key; omega))
  have HT := Lib.hid (show tagB key b = leB 16 (accAt (le (clampB key)) b ((b.length + 15) / 16) + le (key.drop 16)) from rfl)
  have HB := Lib.hid hb
  have HK := Lib.hid hk
  clear he hrun hr1 hg1 hlt0 R0 R1 R2 HGR HRV hk hb hr hfac htl
  go_enter Try.func25, Try.ntmps25
  go_wp2
  go_region
  clear hrun' hW0 hG
  go_wp2_with (refine wpList_load_row _ rfl _ 37 rfl (G + 1 + 1) 37 (bytesV (key.take 16)) _ rfl Q2.out Try.underlying37 rfl (by rw [HTL.out]; kernel_rfl) ?_)
  refine (HF.out _).mono ?_
  rintro e w2 ⟨rfl, hg2⟩
  have P0 := Lib.hid (Q0.out.grown0 hg2)
  have P1 := Lib.hid (Q1.out.grown0 hg2)
  have P2 := Lib.hid (Q2.out.grown0 hg2)
  have HGP := Lib.hid (HGQ.out.trans hg2)
  clear hg2 Q0 Q1 Q2 HGQ HF
  generalize hR : le (clampB key) = R at *
  generalize hrl : digs 67108864 5 R = rl at *
  have HRL := Lib.hid (show (limbsV rl).length = 5 by rw [limbsV_len, HFAC.out.1])
  have HRO := Lib.hid (fun x hx => limbsV_one rl x hx)
  clear hR hrl
  go_wp2_with (refine wpList_store_row _ rfl rfl _ _ 69 rfl w2.heap.size 69 (noughts64 5) (limbsV rl) rfl rfl (Row.new w2 69 (noughts64 5)) (by rw [HRL.out]; rfl) HRO.out (by rw [HRL.out]; kernel_rfl) ?_; intro w3 hr3 hg3)
  have hlt2 := P2.out.lt
  have hsz3 : w2.heap.size + 1 ≤ w3.heap.size := by have := hg3.size; simpa using this
  have HSW := Lib.hid (show w.heap.size ≤ w2.heap.size from HGP.out.size)
  have N0 := Lib.hid (((P0.out.alloc (.cells (noughts64 5).toArray 69)).grown hg3 (by simp; omega)).alloc (.cells (noughts64 5).toArray 69))
  have N1 := Lib.hid (((P1.out.alloc (.cells (noughts64 5).toArray 69)).grown hg3 (by simp; omega)).alloc (.cells (noughts64 5).toArray 69))
  have N2 := Lib.hid (((P2.out.alloc (.cells (noughts64 5).toArray 69)).grown hg3 (by simp; omega)).alloc (.cells (noughts64 5).toArray 69))
  have N3 := Lib.hid (hr3.alloc (.cells (noughts64 5).toArray 69))
  have N4 := Lib.hid (Row.new w3 69 (noughts64 5))
  have HGN := Lib.hid (grown_alloc (grown_own (grown_alloc HGP.out (.cells (noughts64 5).toArray 69)) hg3 HSW.out) (.cells (noughts64 5).toArray 69))
  have HLT := Lib.hid (show G + 1 + 1 < w2.heap.size ∧ w2.heap.size < w3.heap.size by omega)
  clear hlt2 hsz3 hr3 hg3 P0 P1 P2 HGP
  generalize hgR : w2.heap.size = gR at *
  generalize hgA : w3.heap.size = gA at *
  clear hgR hgA
  go_loopw [1] (fun u W => ∃ (k : Nat) (L : List Nat), 16 * k < b.length + 16 ∧ Rd w u (bytesV (b.drop (16 * k))) ∧ Low L 4294967296 67108864 ∧ valL L % PP = accAt R b k ∧ Row W G 22 (bytesV key) ∧ Row W (G + 1) 37 (noughts8 16) ∧ Row W (G + 1 + 1) 37 (bytesV (key.take 16)) ∧ Row W gR 69 (limbsV rl) ∧ Row W gA 69 (limbsV L) ∧ w.grownBy W none) (fun u _ => slen u)
  case atStart => exact ⟨0, [0, 0, 0, 0, 0], by omega, HV.out, ⟨rfl, by decide, fun k hk => by rcases k with _ | _ | _ | _ | _ | k <;> simp⟩, by show valL [0, 0, 0, 0, 0] % PP = 0; decide, N0.out, N1.out, N2.out, N3.out, N4.out, HGN.out⟩
  case round =>
    clear N0 N1 N2 N3 N4 HGN HV
    obtain ⟨k, L, hk, hv, hlow, hacc, r0, r1, r2, r3, r4, hgr⟩ := hrel
    obtain ⟨A, c, rfl⟩ := hv.form
    have hc := hv.len
    rw [bytesV_len] at hc hv ⊢
    generalize hn : (b.drop (16 * k)).length = n at *
    have HN := Lib.hid hn
    have HV := Lib.hid hv
    have HLOW := Lib.hid hlow
    have HACC := Lib.hid hacc
    have N0 := Lib.hid r0
    have N1 := Lib.hid r1
    have N2 := Lib.hid r2
    have N3 := Lib.hid r3
    have N4 := Lib.hid r4
    have HGN := Lib.hid hgr
    have HKB := Lib.hid hk
    have hcm := hc.2.2
    have hnc := hc.2.1
    unfold maxLen at hcm
    clear hv hlow hacc r0 r1 r2 r3 r4 hgr hk hc hn
    by_cases hn0 : 0 < n
    · generalize hsz : min n 16 = sz at *
      obtain ⟨v', hsl, hvl, hvr⟩ := slice_rest (A := A) (n := n) (c := c) sz (by omega) hnc (by unfold maxLen; omega)
      have HVL := Lib.hid hvl
      have HVR := Lib.hid hvr
      obtain ⟨W1, hW1⟩ : ∃ W, wr.alloc (.cells (noughts8 17).toArray 71) = W := ⟨_, rfl⟩
      have M5 := Lib.hid (show Row W1 wr.heap.size 71 (noughts8 17) by rw [← hW1]; exact Row.new wr _ _)
      have HGM := Lib.hid (show wr.grownBy W1 none by rw [← hW1]; exact grown_alloc (grown_refl _ _) _)
      simp only [noughts8, List.replicate] at hW1
      have HGT := Lib.hid (show gA < wr.heap.size from N4.out.lt)
      generalize hgB : wr.heap.size = gB at *
      have HWB := Lib.hid (show w.heap.size ≤ gB by rw [← hgB]; exact HGN.out.size)
      obtain ⟨w5, hrun, hr5, hg5⟩ := run_copy_gen (P := Try.prog) W1 24 3 5 Try.underlying24 (by kernel_rfl) gB 0 16 17 _ (bytesV (b.drop (16 * k))) (HV.out.grown0 (HGN.out.trans HGM.out)) (bytesV_one _) (noughts8 17) 71 M5.out (by decide)
      rw [bytesV_len, HN.out, hsz] at hrun
      have hcr := chunk_row b k
      rw [HN.out, hsz] at hcr
      have hcell : ∃ z, w5.cell? ⟨gB, sz, none⟩ = some z := ⟨_, hr5.cell (List.getElem?_eq_getElem (by simp [splice, noughts8]; omega))⟩
      obtain ⟨z, hz⟩ := hcell
      have hfz := hr5.frozen sz
      have HR5 := Lib.hid (show Row (w5.setCell ⟨gB, sz, none⟩ (.int .u8 1)) gB 71 (bytesV (blkB b k)) by rw [← hcr]; exact hr5.set sz _)
      have HG5 := Lib.hid (show wr.grownBy (w5.setCell ⟨gB, sz, none⟩ (.int .u8 1)) none from grown_own (grown_own HGM.out hg5 (by omega)) (grown_set w5 gB sz _) (by omega))
      obtain ⟨W6, hW6⟩ : ∃ W, w5.setCell ⟨gB, sz, none⟩ (.int .u8 1) = W := ⟨_, rfl⟩
      rw [hW6] at HR5 HG5
      have M0 := Lib.hid (N0.out.grown0 HG5.out)
      have M1 := Lib.hid (N1.out.grown0 HG5.out)
      have M2 := Lib.hid (N2.out.grown0 HG5.out)
      have M3 := Lib.hid (N3.out.grown0 HG5.out)
      have M4 := Lib.hid (N4.out.grown0 HG5.out)
      have HG6 := Lib.hid (HGN.out.trans HG5.out)
      have hbl := blk_lt b k
      have H1 := Lib.hid (fun w => Val.made (numberOf_any (blkB b k) (blkB_len b k) w))
      rw [le_blkB] at H1
      have hslow := sum_low L (digs 67108864 5 (blk b k)) HLOW.out (fun j => digs_lt5 _ j) (digs_len _ _ _)
      have H2 := Lib.hid (fun w => Val.made (sum_any L (digs 67108864 5 (blk b k)) HLOW.out.1 (digs_len _ _ _) (fun j => by
        rcases Nat.eq_zero_or_pos j with rfl | h
        · have := hslow.2.1; omega
        · have := hslow.2.2 j h; omega) w))
      have H3 := Lib.hid (fun w => Val.made (product_any _ rl hslow HFAC.out w))
      have hmv := mulmod_val _ rl hslow HFAC.out
      have hml := mulmod_low _ rl hslow HFAC.out
      rw [sumN_val L _ HLOW.out.1 (digs_len _ _ _), HRV5.out, valL_digs _ (by omega), acc_next R b k _ HACC.out] at hmv
      have HMV := Lib.hid hmv
      have HML := Lib.hid hml
      generalize foldN (prodN (sumN L (digs 67108864 5 (blk b k))) rl) = L' at *
      have HLV := Lib.hid (show (limbsV L).length = 5 by rw [limbsV_len, HLOW.out.1])
      have HLV' := Lib.hid (show (limbsV L').length = 5 by rw [limbsV_len, HML.out.1])
      have HLO' := Lib.hid (fun x hx => limbsV_one L' x hx)
      have HBV := Lib.hid (show (bytesV (blkB b k)).length = 17 by rw [bytesV_len, blkB_len])
      have HSZ := Lib.hid hsz
      have hsz1 : sz ≤ 16 := by omega
      have hrun' : (Builtin.copy_ #[24, 24] 3 #[.slice (some ⟨gB, 0, none⟩) 16 17, .slice A n c]).run Try.prog W1 = .ok (.int .i64 (sz : Int)) w5 := hrun
      clear hmv hml hslow hbl N0 N1 N2 N3 N4 HGN hcr hr5 hg5 hvl hvr hrun hsz M5 HGM
      go_wp2
      refine wp_region_walk3 6 [] dis_nil (by kernel_rfl) (by kernel_rfl) (by kernel_rfl) ?_
      simp only [List.take_succ_cons, List.take_zero, List.drop_succ_cons, List.drop_zero]
      refine Walk.val (G := Is (.agg (limbsV L).toArray)) (stays_is _ _) rfl rfl (fun a w hm hd => ⟨wanted_plain rfl, _, ex_load_row rfl gA 69 _ _ (by rw [hm.outer 7 (by kernel_rfl)]; rfl) (M4.out.grown0 hm.grow.none2) Try.underlying69 rfl (by rw [HLV.out]; kernel_rfl), rfl⟩) ?_
      refine Walk.val (G := Is (.agg (bytesV (blkB b k)).toArray)) (stays_is _ _) rfl rfl (fun a w hm hd => ⟨wanted_plain rfl, _, ex_load_row rfl gB 71 _ _ (by rw [hm.outer 8 (by kernel_rfl)]; rfl) (HR5.out.grown0 hm.grow.none2) Try.underlying71 rfl (by rw [HBV.out]; kernel_rfl), rfl⟩) ?_
      refine Walk.call (G := Is _) (stays_is _ _) rfl 43 rfl (fun a w hm ha hd => ⟨wanted_plain rfl, _, ex_call1 Try.func43 (by kernel_rfl) (by kernel_rfl) rfl, by rw [show a.eval (.tmp 24) = _ from hd.at_ 1 rfl rfl rfl rfl]; exact H1.out w⟩) ?_
      refine Walk.call (G := Is _) (stays_is _ _) rfl 42 rfl (fun a w hm ha hd => ⟨wanted_plain rfl, _, ex_call2 Try.func42 (by kernel_rfl) (by kernel_rfl) rfl, by rw [show a.eval (.tmp 23) = _ from hd.at_ 0 rfl rfl rfl rfl, show a.eval (.tmp 25) = _ from hd.at_ 2 rfl rfl rfl rfl]; exact H2.out w⟩) ?_
      refine Walk.val (G := Is (.agg (limbsV rl).toArray)) (stays_is _ _) rfl rfl (fun a w hm hd => ⟨wanted_plain rfl, _, ex_load_row rfl gR 69 _ _ (by rw [hm.outer 6 (by kernel_rfl)]; rfl) (M3.out.grown0 hm.grow.none2) Try.underlying69 rfl (by rw [HRL.out]; kernel_rfl), rfl⟩) ?_
      refine Walk.call (G := Is _) (stays_is _ _) rfl 41 rfl (fun a w hm ha hd => ⟨wanted_plain rfl, _, ex_call2 Try.func41 (by kernel_rfl) (by kernel_rfl) rfl, by rw [show a.eval (.tmp 26) = _ from hd.at_ 3 rfl rfl rfl rfl, show a.eval (.tmp 27) = _ from hd.at_ 4 rfl rfl rfl rfl]; exact H3.out w⟩) ?_
      intro a9 V hm9 hall
      have f28 : a9.eval (.tmp 28) = .agg (limbsV L').toArray := hall 5 _ _ rfl rfl
      have f7 : a9.eval (.tmp 7) = .pointer (some ⟨gA, 0, none⟩) := by rw [hm9.outer 7 (by kernel_rfl)]; rfl
      have hg9 : W6.grownBy V none := GrownX.none2 hm9.grow
      have HFR := Lib.hid hm9.frame
      refine wpList_store_row _ rfl rfl _ _ 69 rfl gA 69 (limbsV L) (limbsV L') f7 f28 (M4.out.grown0 hg9) (by rw [HLV.out, HLV'.out]) HLO'.out (by rw [HLV'.out]; kernel_rfl) ?_
      intro w7 hr7 hg7
      have hltA := HGT.out
      have hlt0 := HLT.out
      have K0 := Lib.hid ((M0.out.grown0 hg9).grown hg7 (by simp; omega))
      have K1 := Lib.hid ((M1.out.grown0 hg9).grown hg7 (by simp; omega))
      have K2 := Lib.hid ((M2.out.grown0 hg9).grown hg7 (by simp; omega))
      have K3 := Lib.hid ((M3.out.grown0 hg9).grown hg7 (by simp; omega))
      have K4 := Lib.hid hr7
      have HGK := Lib.hid (grown_own (HG6.out.trans hg9) hg7 (by have := HG.out; omega))
      rw [HFR.out]
      simp only [List.take_succ_cons, List.take_zero, List.filterMap_cons, List.filterMap_nil, List.foldl_cons, List.foldl_nil]
      clear f28 f7 hg9 HFR hr7 hg7 hltA hlt0
      generalize a9.eval (.tmp 23) = e23
      generalize a9.eval (.tmp 24) = e24
      generalize a9.eval (.tmp 25) = e25
      generalize a9.eval (.tmp 26) = e26
      generalize a9.eval (.tmp 27) = e27
      generalize a9.eval (.tmp 28) = e28
      clear hm9 hall
      simp only [Act.put, List.setIfInBounds_toArray, List.set_cons_succ, List.set_cons_zero]
      go_wp2
      go_roundw
      case rel =>
        have hh := HN.out
        rw [List.length_drop] at hh
        refine ⟨k + 1, L', by omega, ?_, HML.out, HMV.out, K0.out, K1.out, K2.out, K3.out, K4.out, HGK.out⟩
        have := HVR.out w _ HV.out
        have e : (bytesV (b.drop (16 * k))).drop sz = bytesV (b.drop (16 * (k + 1))) := by
          have hs := HSZ.out
          rw [show (bytesV (b.drop (16 * k))).drop sz = bytesV ((b.drop (16 * k)).drop sz) by simp [bytesV, List.map_drop], List.drop_drop]
          by_cases h16 : 16 ≤ n
          · rw [show 16 * k + sz = 16 * (k + 1) by omega]
          · rw [List.drop_of_length_le (show b.length ≤ 16 * k + sz by omega), List.drop_of_length_le (show b.length ≤ 16 * (k + 1) by omega)]
        rw [e] at this
        exact this
      case measure =>
        have h1 := HVL.out
        have h2 := HSZ.out
        show slen v' < n
        omega
    · have hkk : k = (b.length + 15) / 16 := by
        have h1 := HN.out
        rw [List.length_drop] at h1
        have h2 := HKB.out
        omega
      rw [hkk] at HACC
      have hn' : n = 0 := by omega
      subst hn'
      have HT' := HT
      rw [← HACC.out] at HT
      have hacc : valL L % PP < PP := Nat.mod_lt _ (by decide)
      have hdl : (key.drop 16).length = 16 := by rw [List.length_drop, HK.out]
      have H1 := Lib.hid (fun w => Val.made (reduced_any L HLOW.out w))
      have H2 := Lib.hid (fun w => Val.made (bytesOf_any _ (digs_len 67108864 5 (valL L % PP)) (lt_digs _) w))
      rw [valL_red] at H2
      have H3 := Lib.hid (fun w => Val.made (lowSum_any (leB 17 (valL L % PP)) (key.drop 16) (leB_len _ _) hdl w))
      rw [le_leB, Nat.mod_eq_of_lt (show valL L % PP < 256 ^ 17 by unfold PP at *; omega), ← HT.out] at H3
      have HLV := Lib.hid (show (limbsV L).length = 5 by rw [limbsV_len, HLOW.out.1])
      have HDV := Lib.hid (show (bytesV (key.drop 16)).length = 16 by rw [bytesV_len, hdl])
      have HL := Lib.hid (show (bytesV (tagB key b)).length = 16 by rw [bytesV_len, tagB_len])
      have HO := Lib.hid (fun x hx => bytesV_one (tagB key b) x hx)
      have hrk : Rd wr.drew (.slice (some ⟨G, 16, none⟩) 16 16) (bytesV (key.drop 16)) := by
        have := (N0.out.drew.rds 32 32 HKL.out (by decide) (by decide)).drop (n := 16) (by decide)
        rw [show (bytesV key).drop 16 = bytesV (key.drop 16) by simp [bytesV, List.map_drop]] at this
        exact this
      obtain ⟨w5, hrun, hr5, hg5⟩ := run_copy_gen (P := Try.prog) wr.drew 24 3 5 Try.underlying24 (by kernel_rfl) (G + 1 + 1) 0 16 16 _ (bytesV (key.drop 16)) hrk (bytesV_one _) (bytesV (key.take 16)) 37 N2.out.drew (by rw [HTL.out]; decide)
      have he : splice (bytesV (key.take 16)) 0 ((bytesV (key.drop 16)).take 16) = bytesV (key.drop 16) := by
        rw [List.take_of_length_le (l := bytesV (key.drop 16)) (by rw [HDV.out]; exact Nat.le_refl _), splice_zero, HDV.out, List.drop_of_length_le (l := bytesV (key.take 16)) (by rw [HTL.out]; exact Nat.le_refl _), List.append_nil]
      rw [he] at hr5
      rw [HDV.out] at hrun
      have hrun' : (Builtin.copy_ #[24, 24] 3 #[.slice (some ⟨G + 1 + 1, 0, none⟩) 16 16, .slice (some ⟨G, 16, none⟩) 16 16]).run Try.prog wr.drew = .ok (.int .i64 16) w5 := hrun
      have hlt0 := HLT.out
      have hltA := N4.out.lt
      have M1 := Lib.hid (N1.out.drew.grown hg5 (by simp))
      have M2 := Lib.hid hr5
      have M4 := Lib.hid (N4.out.drew.grown hg5 (by simp; omega))
      have HG5 := Lib.hid (grown_own (grown_drew HGN.out) hg5 (by have := HG.out; omega))
      clear he hrun hr5 hg5 hrk N0 N1 N2 N3 N4 HGN hlt0 hltA hacc hdl HT HT' hkk
      generalize bytesV (tagB key b) = xs at *
      go_wp2
      go_region
      clear hrun'
      go_wp2
      refine wp_region_walk3 5 [] dis_nil (by kernel_rfl) (by kernel_rfl) (by kernel_rfl) ?_
      simp only [List.take_succ_cons, List.take_zero, List.drop_succ_cons, List.drop_zero]
      refine Walk.val (G := Is (.agg (limbsV L).toArray)) (stays_is _ _) rfl rfl (fun a w hm hd => ⟨wanted_plain rfl, _, ex_load_row rfl gA 69 _ _ (by rw [hm.outer 7 (by kernel_rfl)]; rfl) (M4.out.grown0 hm.grow.none2) Try.underlying69 rfl (by rw [HLV.out]; kernel_rfl), rfl⟩) ?_
      refine Walk.call (G := Is _) (stays_is _ _) rfl 46 rfl (fun a w hm ha hd => ⟨wanted_plain rfl, _, ex_call1 Try.func46 (by kernel_rfl) (by kernel_rfl) rfl, by rw [show a.eval (.tmp 35) = _ from hd.at_ 0 rfl rfl rfl rfl]; exact H1.out w⟩) ?_
      refine Walk.call (G := Is _) (stays_is _ _) rfl 45 rfl (fun a w hm ha hd => ⟨wanted_plain rfl, _, ex_call1 Try.func45 (by kernel_rfl) (by kernel_rfl) rfl, by rw [show a.eval (.tmp 36) = _ from hd.at_ 1 rfl rfl rfl rfl]; exact H2.out w⟩) ?_
      refine Walk.val (G := Is (.agg (bytesV (key.drop 16)).toArray)) (stays_is _ _) rfl rfl (fun a w hm hd => ⟨wanted_plain rfl, _, ex_load_row rfl (G + 1 + 1) 37 _ _ (by rw [hm.outer 5 (by kernel_rfl)]; rfl) (M2.out.grown0 hm.grow.none2) Try.underlying37 rfl (by rw [HDV.out]; kernel_rfl), rfl⟩) ?_
      refine Walk.call (G := Is _) (stays_is _ _) rfl 44 rfl (fun a w hm ha hd => ⟨wanted_plain rfl, _, ex_call2 Try.func44 (by kernel_rfl) (by kernel_rfl) rfl, by rw [show a.eval (.tmp 37) = _ from hd.at_ 2 rfl rfl rfl rfl, show a.eval (.tmp 38) = _ from hd.at_ 3 rfl rfl rfl rfl]; exact H3.out w⟩) ?_
      intro a9 V hm9 hall
      have f39 : a9.eval (.tmp 39) = .agg xs.toArray := hall 4 _ _ rfl rfl
      have f4 : a9.eval (.tmp 4) = .pointer (some ⟨G + 1, 0, none⟩) := by rw [hm9.outer 4 (by kernel_rfl)]; rfl
      have hg9 : w5.grownBy V none := GrownX.none2 hm9.grow
      have hdf : a9.defers = [] := hm9.defers
      clear hall hm9
      refine wpList_store_row _ rfl rfl _ _ 37 rfl (G + 1) 37 (noughts8 16) xs f4 f39 (M1.out.grown0 hg9) (by rw [HL.out]; rfl) HO.out (by rw [HL.out]; kernel_rfl) ?_
      intro w7 hr7 hg7
      obtain ⟨tm, df⟩ := a9
      simp only at hdf
      subst hdf
      go_wp2
      refine bodyPost_ret (v := .agg xs.toArray) ?_ rfl ⟨rfl, grown_own (HG5.out.trans hg9) hg7 (by have := HG.out; omega)⟩
      exact results_row Try.results25 (G + 1) 37 xs _ f4 hr7 Try.underlying37 rfl (by rw [HL.out]; kernel_rfl)
end Go.Proofs.Ytjcbdplbekecjaa
