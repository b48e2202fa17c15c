/-
  digest.Block over this program: the state behind a block.
-/
import Derived.Test.YtmhcfbfdbminnaaDoorDigTurned
import Derived.Test.YtmhcfbfdbminnaaDoorRowOps
namespace Go.Proofs.YtmhcfbfdbminnaaDoor
open Go.RowKit

/-- The first k words have been added. -/
def mixed (s n : List W32) (k : Nat) : List W32 := (List.zipWith (· + ·) s n).take k ++ s.drop k
theorem mixed_len (s n : List W32) (k : Nat) (hs : s.length = 8) (hn : n.length = 8) (hk : k ≤ 8) : (mixed s n k).length = 8 := by
  simp [mixed, hs, hn]; omega
theorem mixed_at (s n : List W32) (k : Nat) (hs : s.length = 8) (hn : n.length = 8) (hk : k < 8) : (mixed s n k)[k]? = some (s.getD k 0) := by
  unfold mixed
  have hl : ((List.zipWith (· + ·) s n).take k).length = k := by simp [hs, hn]; omega
  rw [List.getElem?_append_right (by omega), hl, Nat.sub_self, List.getElem?_drop]
  simp [List.getElem?_eq_getElem (show k < s.length by omega)]
theorem mixed_set (s n : List W32) (k : Nat) (hs : s.length = 8) (hn : n.length = 8) (hk : k < 8) : (mixed s n k).set k (s.getD k 0 + n.getD k 0) = mixed s n (k + 1) := by
  unfold mixed
  have hl : ((List.zipWith (· + ·) s n).take k).length = k := by simp [hs, hn]; omega
  have hz : k < (List.zipWith (· + ·) s n).length := by simp [hs, hn]; omega
  rw [List.set_append_right _ _ (by omega), hl, Nat.sub_self, List.take_succ_eq_append_getElem hz, List.drop_eq_getElem_cons (show k < s.length by omega), List.set_cons_zero]
  simp [List.getElem?_eq_getElem (show k < s.length by omega), List.getElem?_eq_getElem (show k < n.length by omega)]
theorem wordsV_set (l : List W32) (k : Nat) (x : W32) : (wordsV l).set k (wordV x) = wordsV (l.set k x) := by simp [wordsV, List.map_set]
theorem wordsV_at (l : List W32) (k : Nat) (x : W32) (h : l[k]? = some x) : (wordsV l)[k]? = some (.int .u32 (x.toNat : Int)) := by simp [wordsV, wordV, h]
theorem R8.l_len (r : R8) : r.l.length = 8 := rfl

set_option maxHeartbeats 4000000 in
theorem block_any (s : List W32) (hs : s.length = 8) (b : List UInt8) (hb : b.length = 64) (w : World) (hT : Tab w) :
    Calls Tryd.prog 33 #[.agg (wordsV s).toArray, .agg (bytesV b).toArray] w (Val (.agg (wordsV (blk s b)).toArray) w) := by
  have HS := Lib.hid hs
  have HB := Lib.hid hb
  have HT := Lib.hid hT
  clear hs hb hT
  generalize hG : w.heap.size = G
  have HG := Lib.hid hG
  go_enter Tryd.func33, Tryd.ntmps33
  go_wp2
  have r1 := ((Row.newAt w 44 (wordsV s) HG.out).alloc (.cells (bytesV b).toArray 34)).alloc (.cells zeros8.toArray 44)
  have r2 := (Row.newAt (w.alloc (.cells (wordsV s).toArray 44)) 34 (bytesV b) (g := G + 1) (by simp [HG.out])).alloc (.cells zeros8.toArray 44)
  have r3 := Row.newAt ((w.alloc (.cells (wordsV s).toArray 44)).alloc (.cells (bytesV b).toArray 34)) 44 zeros8 (g := G + 1 + 1) (by simp [HG.out])
  have hg := grown_alloc (grown_alloc (grown_alloc (grown_refl w none) (.cells (wordsV s).toArray 44)) (.cells (bytesV b).toArray 34)) (.cells zeros8.toArray 44)
  have hTT := HT.out.grown hg
  simp only [zeros8] at r1 r2 r3 hg hTT
  generalize hW : ((w.alloc (.cells (wordsV s).toArray 44)).alloc (.cells (bytesV b).toArray 34)).alloc _ = W at *
  clear hW hG HT
  refine wp_region_steps none (by kernel_rfl) (by kernel_rfl) (by kernel_rfl) ?_
  refine Steps.val (G := Is (.agg (wordsV s).toArray)) (lasts_is _) rfl (fun a w hm hd => ⟨wanted_plain rfl, _, ex_load_row rfl G 44 _ _ (by rw [hm.outer 2 (by kernel_rfl)]; rfl) (r1.grown0 hm.grow) Tryd.underlying44 rfl (by rw [wordsV_len, HS.out]; kernel_rfl), rfl⟩) ?_
  refine Steps.val (G := Is (.agg (bytesV b).toArray)) (lasts_is _) rfl (fun a w hm hd => ⟨wanted_plain rfl, _, ex_load_row rfl (G + 1) 34 _ _ (by rw [hm.outer 3 (by kernel_rfl)]; rfl) (r2.grown0 hm.grow) Tryd.underlying34 rfl (by rw [bytesV_len, HB.out]; kernel_rfl), rfl⟩) ?_
  refine Steps.call (G := Is (.agg (wordsV (sched b)).toArray)) (lasts_is _) rfl 42 (fun a w hm hd => ⟨wanted_plain rfl, _, ex_call1 Tryd.func42 (by kernel_rfl) (by kernel_rfl) rfl, by
    rw [show a.eval (.tmp 8) = _ from hd.at_ 1 rfl rfl rfl]
    refine (words_any b HB.out w).mono ?_
    rintro e w' ⟨rfl, hg⟩
    exact ⟨_, rfl, hg, rfl⟩⟩) ?_
  refine Steps.call (G := Is (.agg (wordsV (rnds 64 (R8.of s) (sched b)).l).toArray)) (lasts_is _) rfl 41 (fun a w hm hd => ⟨wanted_plain rfl, _, ex_call2 Tryd.func41 (by kernel_rfl) (by kernel_rfl) rfl, by
    rw [show a.eval (.tmp 7) = _ from hd.at_ 0 rfl rfl rfl, show a.eval (.tmp 9) = _ from hd.at_ 2 rfl rfl rfl]
    refine (turned_any s HS.out (sched b) (sched_len b) w (hTT.grown hm.grow)).mono ?_
    rintro e w' ⟨rfl, hg⟩
    exact ⟨_, rfl, hg, rfl⟩⟩) ?_
  refine Steps.val (G := Is (.int .i64 0)) (lasts_is _) rfl (fun a w hm hd => ⟨wanted_plain rfl, _, ex_move rfl, rfl⟩) ?_
  intro a V hmid hall
  have v7 : a.eval (.tmp 7) = .agg (wordsV s).toArray := hall 0 _ 7 rfl rfl
  have v8 : a.eval (.tmp 8) = .agg (bytesV b).toArray := hall 1 _ 8 rfl rfl
  have v9 : a.eval (.tmp 9) = .agg (wordsV (sched b)).toArray := hall 2 _ 9 rfl rfl
  have v10 : a.eval (.tmp 10) = .agg (wordsV (rnds 64 (R8.of s) (sched b)).l).toArray := hall 3 _ 10 rfl rfl
  have v11 : a.eval (.tmp 11) = .int .i64 0 := hall 4 _ 11 rfl rfl
  have ha := act_of_slots (a := a) (l := [.agg (wordsV s).toArray, .agg (bytesV b).toArray, .pointer (some ⟨G, 0, none⟩), .pointer (some ⟨G + 1, 0, none⟩), .pointer (some ⟨G + 1 + 1, 0, none⟩), undef, undef, .agg (wordsV s).toArray, .agg (bytesV b).toArray, .agg (wordsV (sched b)).toArray, .agg (wordsV (rnds 64 (R8.of s) (sched b)).l).toArray, .int .i64 0, undef, undef, undef, undef, undef, undef, undef, undef, undef, undef, undef]) hmid.size hmid.defers (fun i hi => by
    match i, hi with
    | 0, _ => exact hmid.outer 0 (by kernel_rfl)
    | 1, _ => exact hmid.outer 1 (by kernel_rfl)
    | 2, _ => exact hmid.outer 2 (by kernel_rfl)
    | 3, _ => exact hmid.outer 3 (by kernel_rfl)
    | 4, _ => exact hmid.outer 4 (by kernel_rfl)
    | 5, _ => exact hmid.outer 5 (by kernel_rfl)
    | 6, _ => exact hmid.outer 6 (by kernel_rfl)
    | 7, _ => exact v7
    | 8, _ => exact v8
    | 9, _ => exact v9
    | 10, _ => exact v10
    | 11, _ => exact v11
    | 12, _ => exact hmid.outer 12 (by kernel_rfl)
    | 13, _ => exact hmid.outer 13 (by kernel_rfl)
    | 14, _ => exact hmid.outer 14 (by kernel_rfl)
    | 15, _ => exact hmid.outer 15 (by kernel_rfl)
    | 16, _ => exact hmid.outer 16 (by kernel_rfl)
    | 17, _ => exact hmid.outer 17 (by kernel_rfl)
    | 18, _ => exact hmid.outer 18 (by kernel_rfl)
    | 19, _ => exact hmid.outer 19 (by kernel_rfl)
    | 20, _ => exact hmid.outer 20 (by kernel_rfl)
    | 21, _ => exact hmid.outer 21 (by kernel_rfl)
    | 22, _ => exact hmid.outer 22 (by kernel_rfl)
    | n + 23, h => exact absurd h (by simp))
  have R1 := Lib.hid (r1.grown0 hmid.grow)
  have R3 := Lib.hid (r3.grown0 hmid.grow)
  have HGR := Lib.hid (hg.trans hmid.grow)
  clear v7 v8 v9 v10 v11 hmid hall r1 r2 r3 hg hTT
  subst ha
  have hrl := R8.l_len (rnds 64 (R8.of s) (sched b))
  have hbk : blk s b = List.zipWith (· + ·) s (rnds 64 (R8.of s) (sched b)).l := rfl
  generalize (rnds 64 (R8.of s) (sched b)).l = n at *
  have HNL := Lib.hid hrl
  have HBK := Lib.hid hbk
  have HI := Lib.hid (fun k hk w => run_index_words 44 8 Tryd.underlying44 n HNL.out k hk w)
  clear hrl hbk
  go_wp2
  go_loopw [11] (fun i W => ∃ k : Nat, k ≤ 8 ∧ i = .int .i64 k ∧ Row W G 44 (wordsV (mixed s n k)) ∧ Row W (G + 1 + 1) 44 [.int .u32 0, .int .u32 0, .int .u32 0, .int .u32 0, .int .u32 0, .int .u32 0, .int .u32 0, .int .u32 0] ∧ w.grownBy W none) (fun i _ => 8 - (intOf i).toNat)
  case atStart => exact ⟨0, Nat.zero_le _, rfl, R1.out, R3.out, HGR.out⟩
  case round =>
    clear R1 R3 HGR
    obtain ⟨k, hk, rfl, r1, r3, hgr⟩ := hrel
    have R1 := Lib.hid r1
    have R3 := Lib.hid r3
    have HGR := Lib.hid hgr
    by_cases hlt : k < 8
    · have hidx := HI.out k hlt
      have hc := r1.cell (wordsV_at _ k _ (mixed_at s n k HS.out HNL.out hlt))
      have hf := r1.frozen k
      have hm := mixed_set s n k HS.out HNL.out hlt
      have HA := Lib.hid (add_bits (s.getD k 0) (n.getD k 0))
      generalize s.getD k 0 = x at *
      generalize n.getD k 0 = y at *
      have HM := Lib.hid hm
      clear r1 r3 hgr hm
      go_wp2
      rw [HA.out]
      go_roundw
      case rel =>
        refine ⟨k + 1, by omega, by go_num, ?_, R3.out.other (by omega) _, grown_own HGR.out (grown_set wr G k _) (by have := HG.out; omega)⟩
        rw [← HM.out, ← wordsV_set]
        exact R1.out.set k _
      case measure => simp [intOf]; omega
    · have h8 : mixed s n k = blk s b := by
        have hs := HS.out
        have hn := HNL.out
        rw [HBK.out, show k = 8 by omega]
        unfold mixed
        rw [List.take_of_length_le (by simp [hs, hn]), List.drop_of_length_le (by omega), List.append_nil]
      rw [h8] at R1
      have HL := Lib.hid (show (wordsV (blk s b)).length = 8 by rw [wordsV_len, blk_len s b HS.out])
      have HO := Lib.hid (fun x hx => wordsV_one (blk s b) x hx)
      clear r1 r3 hgr h8 HBK HI
      generalize wordsV (blk s b) = xs at *
      go_wp2_with (first
        | refine wpList_load_row _ rfl _ _ rfl G 44 xs _ rfl R1.out Tryd.underlying44 rfl (by rw [HL.out]; kernel_rfl) ?_
        | (refine wpList_store_row _ rfl rfl _ _ _ rfl (G + 1 + 1) 44 _ xs rfl rfl R3.out (by rw [HL.out]; rfl) HO.out (by rw [HL.out]; kernel_rfl) ?_; intro w2 hr2 hg2))
      refine bodyPost_ret (v := .agg xs.toArray) ?_ rfl ⟨rfl, grown_own HGR.out hg2 (by have := HG.out; omega)⟩
      exact results_row Tryd.results33 (G + 1 + 1) 44 xs _ rfl hr2 Tryd.underlying44 rfl (by rw [HL.out]; kernel_rfl)
end Go.Proofs.YtmhcfbfdbminnaaDoor
