/-
  poly.sum, poly.folded and poly.reduced over this program.
-/
import Derived.Test.YtjcbdplbekecjaaPolCarry
namespace Go.Proofs.Ytjcbdplbekecjaa
open Go.RowKit

def sumK (a b : List Nat) (k : Nat) : List Nat := (sumN a b).take k ++ a.drop k
theorem sumK_len (a b : List Nat) (ha : a.length = 5) (hb : b.length = 5) (k : Nat) (hk : k ≤ 5) : (sumK a b k).length = 5 := by simp [sumK, sumN_len a b ha hb, ha]; omega
theorem sumK_at (a b : List Nat) (ha : a.length = 5) (hb : b.length = 5) (k : Nat) (hk : k < 5) : (sumK a b k).getD k 0 = a.getD k 0 := by
  have hl : ((sumN a b).take k).length = k := by rw [List.length_take, sumN_len a b ha hb]; omega
  unfold sumK
  rw [List.getD_eq_getElem?_getD, List.getElem?_append_right (by omega), hl, Nat.sub_self, List.getElem?_drop, Nat.add_zero, ← List.getD_eq_getElem?_getD]
theorem sumK_set (a b : List Nat) (ha : a.length = 5) (hb : b.length = 5) (k : Nat) (hk : k < 5) : (sumK a b k).set k (a.getD k 0 + b.getD k 0) = sumK a b (k + 1) := by
  have hl : ((sumN a b).take k).length = k := by rw [List.length_take, sumN_len a b ha hb]; omega
  have hs := sumN_at a b ha hb k
  unfold sumK
  rw [List.set_append_right _ _ (by omega), hl, Nat.sub_self, List.drop_eq_getElem_cons (by omega), List.set_cons_zero, List.take_add_one, List.getElem?_eq_getElem (by rw [sumN_len a b ha hb]; exact hk), ← hs]
  rw [List.getD_eq_getElem?_getD, List.getElem?_eq_getElem (by rw [sumN_len a b ha hb]; exact hk), List.append_assoc]
  rfl
theorem sumK_all (a b : List Nat) (ha : a.length = 5) (hb : b.length = 5) : sumK a b 5 = sumN a b := by simp [sumK, ha, List.take_of_length_le (Nat.le_of_eq (sumN_len a b ha hb))]

set_option maxHeartbeats 4000000 in
theorem sum_any (a b : List Nat) (ha : a.length = 5) (hb : b.length = 5) (hle : Le (sumN a b) 18446744073709551615) (w : World) :
    Calls Try.prog 42 #[.agg (limbsV a).toArray, .agg (limbsV b).toArray] w (Val (.agg (limbsV (sumN a b)).toArray) w) := by
  generalize hG : w.heap.size = G
  have HG := Lib.hid hG
  have HA5 := Lib.hid ha
  have HB5 := Lib.hid hb
  have HLE := Lib.hid hle
  obtain ⟨W0, hW0⟩ : ∃ W, ((w.alloc (.cells (limbsV a).toArray 69)).alloc (.cells (limbsV b).toArray 69)).alloc (.cells (noughts64 5).toArray 69) = W := ⟨_, rfl⟩
  have R0 := Lib.hid (show Row W0 G 69 (limbsV a) by rw [← hW0]; exact ((Row.newAt w _ (limbsV a) hG).alloc _).alloc _)
  have R1 := Lib.hid (show Row W0 (G + 1) 69 (limbsV b) by rw [← hW0]; exact (Row.newAt _ _ (limbsV b) (by simp [hG])).alloc _)
  have R2 := Lib.hid (show Row W0 (G + 1 + 1) 69 (noughts64 5) by rw [← hW0]; exact Row.newAt _ _ (noughts64 5) (by simp [hG]))
  have HGR := Lib.hid (show w.grownBy W0 none by rw [← hW0]; exact grown_alloc (grown_alloc (grown_alloc (grown_refl _ _) _) _) _)
  simp only [noughts64, List.replicate] at hW0
  clear ha hb hle
  go_enter Try.func42, Try.ntmps42
  go_wp2
  clear hG hW0
  go_loopw [6] (fun i W => ∃ k : Nat, k ≤ 5 ∧ i = .int .i64 k ∧ Row W G 69 (limbsV (sumK a b k)) ∧ Row W (G + 1) 69 (limbsV b) ∧ Row W (G + 1 + 1) 69 (noughts64 5) ∧ w.grownBy W none) (fun i _ => 5 - (intOf i).toNat)
  case atStart => exact ⟨0, Nat.zero_le _, rfl, by rw [show sumK a b 0 = a by simp [sumK]]; exact R0.out, R1.out, R2.out, HGR.out⟩
  case round =>
    clear R0 R1 R2 HGR
    obtain ⟨k, hk, rfl, r0, r1, r2, hgr⟩ := hrel
    have R0 := Lib.hid r0
    have R1 := Lib.hid r1
    have R2 := Lib.hid r2
    have HGR := Lib.hid hgr
    by_cases hlt : k < 5
    · have c0 := r0.cell (limbsV_at (sumK a b k) k (by rw [sumK_len a b HA5.out HB5.out k hk]; exact hlt))
      rw [sumK_at a b HA5.out HB5.out k hlt] at c0
      have c1 := r1.cell (limbsV_at b k (by rw [HB5.out]; exact hlt))
      have f0 := r0.frozen k
      have hset := sumK_set a b HA5.out HB5.out k hlt
      have hm := HLE.out k
      rw [sumN_at a b HA5.out HB5.out k] at hm
      have HSET := Lib.hid hset
      generalize a.getD k 0 = x at *
      generalize b.getD k 0 = y at *
      have HKK := Lib.hid (And.intro hk hlt)
      clear r0 r1 r2 hgr hset
      go_wp2
      go_region
      go_wp2
      go_roundw
      case rel =>
        refine ⟨k + 1, by omega, by go_num, ?_, R1.out.other (by omega) _, R2.out.other (by omega) _, grown_drew (grown_own HGR.out (grown_set wr G k _) (by have := HG.out; omega))⟩
        rw [← HSET.out, ← limbsV_set]
        exact R0.out.set k _
      case measure => simp [intOf]; omega
    · have hk5 : k = 5 := by omega
      subst hk5
      rw [sumK_all a b HA5.out HB5.out] at R0
      have HL := Lib.hid (show (limbsV (sumN a b)).length = 5 by rw [limbsV_len, sumN_len a b HA5.out HB5.out])
      have HO := Lib.hid (fun x hx => limbsV_one (sumN a b) x hx)
      clear r0 r1 r2 hgr hk hlt
      generalize limbsV (sumN a b) = xs at *
      go_wp2_with (first
        | refine wpList_load_row _ rfl _ 69 rfl G 69 xs _ rfl R0.out Try.underlying69 rfl (by rw [HL.out]; kernel_rfl) ?_
        | (refine wpList_store_row _ rfl rfl _ _ 69 rfl (G + 1 + 1) 69 (noughts64 5) xs rfl rfl R2.out (by rw [HL.out]; rfl) HO.out (by rw [HL.out]; kernel_rfl) ?_; intro w2 hr2 hg2))
      refine bodyPost_ret (v := .agg xs.toArray) ?_ rfl ⟨rfl, grown_own HGR.out hg2 (by have := HG.out; omega)⟩
      exact results_row Try.results42 (G + 1 + 1) 69 xs _ rfl hr2 Try.underlying69 rfl (by rw [HL.out]; kernel_rfl)

set_option maxHeartbeats 4000000 in
theorem folded_any (l : List Nat) (h5 : l.length = 5) (hle : Le l 18000000000000000000) (hhi : valL l / 67108864 ^ 5 < 858993459) (w : World) :
    Calls Try.prog 59 #[.agg (limbsV l).toArray] w (Val (.agg (limbsV (foldN l)).toArray) w) := by
  generalize hG : w.heap.size = G
  have HG := Lib.hid hG
  have HC := Lib.hid (fun w => carried_any l h5 hle w)
  have HLV := Lib.hid (show (limbsV l).length = 5 by rw [limbsV_len, h5])
  obtain ⟨W0, hW0⟩ : ∃ W, (w.alloc (.cells (limbsV l).toArray 69)).alloc (.cells (noughts64 5).toArray 69) = W := ⟨_, rfl⟩
  have R0 := Lib.hid (show Row W0 G 69 (limbsV l) by rw [← hW0]; exact (Row.newAt w _ (limbsV l) hG).alloc _)
  have R1 := Lib.hid (show Row W0 (G + 1) 69 (noughts64 5) by rw [← hW0]; exact Row.newAt _ _ (noughts64 5) (by simp [hG]))
  have HGR := Lib.hid (show w.grownBy W0 none by rw [← hW0]; exact grown_alloc (grown_alloc (grown_refl _ _) _) _)
  simp only [noughts64, List.replicate] at hW0
  have hd0 : (digs 67108864 5 (valL l)).getD 0 0 < 67108864 := digs_lt5 _ 0
  have HFN := Lib.hid (show foldN l = (digs 67108864 5 (valL l)).set 0 ((digs 67108864 5 (valL l)).getD 0 0 + 5 * (valL l / 67108864 ^ 5)) from rfl)
  have HDL := Lib.hid (digs_len 67108864 5 (valL l))
  go_enter Try.func59, Try.ntmps59
  go_wp2_with (refine wpList_load_row _ rfl _ 69 rfl G 69 (limbsV l) _ rfl R0.out Try.underlying69 rfl (by rw [HLV.out]; kernel_rfl) ?_)
  clear hG hW0
  refine (HC.out _).mono ?_
  rintro e w1 ⟨rfl, hg1⟩
  have R0' := Lib.hid (R0.out.grown0 hg1)
  have R1' := Lib.hid (R1.out.grown0 hg1)
  have HG1 := Lib.hid (HGR.out.trans hg1)
  clear hg1 R0 R1 HGR HC h5 hle
  generalize hH : valL l / 67108864 ^ 5 = H at *
  generalize digs 67108864 5 (valL l) = D at *
  have HDV := Lib.hid (show (limbsV D).length = 5 by rw [limbsV_len, HDL.out])
  have HDO := Lib.hid (fun x hx => limbsV_one D x hx)
  have HF0 := Lib.hid (show ∀ W : World, Row W G 69 (limbsV D) → W.cell? ⟨G, 0, none⟩ = some (.int .u64 ((D.getD 0 0 : Nat) : Int)) from fun W h => h.cell (limbsV_at D 0 (by rw [HDL.out]; decide)))
  generalize hd : D.getD 0 0 = d at *
  clear hd hH
  have HFL := Lib.hid (show (limbsV (foldN l)).length = 5 by rw [limbsV_len, foldN_len])
  have HFO := Lib.hid (fun x hx => limbsV_one (foldN l) x hx)
  have HRW := Lib.hid (show ∀ W : World, Row W G 69 (limbsV D) → Row (W.setCell ⟨G, 0, none⟩ (.int .u64 ((d : Int) + 5 * (H : Int)))) G 69 (limbsV (foldN l)) from fun W h => by
    rw [HFN.out, ← limbsV_set]
    exact h.set 0 _)
  generalize limbsV (foldN l) = xs at *
  go_wp2_with (first
    | (refine wpList_store_row _ rfl rfl _ _ 69 rfl G 69 (limbsV l) (limbsV D) rfl rfl R0'.out (by rw [HDV.out, HLV.out]) HDO.out (by rw [HDV.out]; kernel_rfl) ?_; intro w2 hr2 hg2; have hc0 := HF0.out w2 hr2; have hf0 := hr2.frozen 0; have HR2 := Lib.hid (HRW.out w2 hr2); have HG2 := Lib.hid hg2; clear hr2 hg2)
    | refine wpList_load_row _ rfl _ 69 rfl G 69 xs _ rfl HR2.out Try.underlying69 rfl (by rw [HFL.out]; kernel_rfl) ?_
    | (refine wpList_store_row _ rfl rfl _ _ 69 rfl (G + 1) 69 (noughts64 5) xs rfl rfl ((R1'.out.grown HG2.out (by simp)).other (by omega) _) (by rw [HFL.out]; rfl) HFO.out (by rw [HFL.out]; kernel_rfl) ?_; intro w3 hr3 hg3))
  refine bodyPost_ret (v := .agg xs.toArray) ?_ rfl ⟨rfl, grown_own (grown_own (grown_own HG1.out HG2.out (by have := HG.out; omega)) (grown_set w2 G 0 _) (by have := HG.out; omega)) hg3 (by have := HG.out; omega)⟩
  exact results_row Try.results59 (G + 1) 69 xs _ rfl hr3 Try.underlying69 rfl (by rw [HFL.out]; kernel_rfl)

def five0 : List Nat := [5, 0, 0, 0, 0]
set_option maxHeartbeats 4000000 in
theorem reduced_any (l : List Nat) (hl : Low l 4294967296 67108864) (w : World) :
    Calls Try.prog 46 #[.agg (limbsV l).toArray] w (Val (.agg (limbsV (digs 67108864 5 (valL l % PP))).toArray) w) := by
  generalize hG : w.heap.size = G
  have HG := Lib.hid hG
  have h5 := hl.1
  have hM : Le l 4294967296 := fun k => by
    rcases Nat.eq_zero_or_pos k with rfl | h
    · exact Nat.le_of_lt hl.2.1
    · have := hl.2.2 k h; omega
  have hf5 : Le five0 5 := fun k => by
    rcases k with _ | _ | _ | _ | _ | k <;> simp [five0]
  have hS : Le (sumN l five0) 4294967301 := fun k => by
    rw [sumN_at l five0 h5 rfl]
    have := hM k
    have := hf5 k
    omega
  have HSUM := Lib.hid (fun w => sum_any l five0 h5 rfl (fun k => by have := hS k; omega) w)
  have HC1 := Lib.hid (fun w => carried_any (sumN l five0) (sumN_len l five0 h5 rfl) (fun k => by have := hS k; omega) w)
  have hv := sumN_val l five0 h5 rfl
  rw [show valL five0 = 5 from rfl] at hv
  have hlow := low_val l hl
  have hH : valL (sumN l five0) / 67108864 ^ 5 ≤ 1 := by rw [hv]; omega
  have hred := reduce_val (valL l) hlow
  rw [← hv] at hred
  have HDL := Lib.hid (digs_len 67108864 5 (valL (sumN l five0)))
  have HLV := Lib.hid (show (limbsV l).length = 5 by rw [limbsV_len, h5])
  obtain ⟨W0, hW0⟩ : ∃ W, (w.alloc (.cells (limbsV l).toArray 69)).alloc (.cells (noughts64 5).toArray 69) = W := ⟨_, rfl⟩
  have R0 := Lib.hid (show Row W0 G 69 (limbsV l) by rw [← hW0]; exact (Row.newAt w _ (limbsV l) hG).alloc _)
  have R1 := Lib.hid (show Row W0 (G + 1) 69 (noughts64 5) by rw [← hW0]; exact Row.newAt _ _ (noughts64 5) (by simp [hG]))
  have HGR := Lib.hid (show w.grownBy W0 none by rw [← hW0]; exact grown_alloc (grown_alloc (grown_refl _ _) _) _)
  simp only [noughts64, List.replicate] at hW0
  generalize hHH : valL (sumN l five0) / 67108864 ^ 5 = H at *
  have hd0 : l.getD 0 0 ≤ 4294967296 := hM 0
  obtain ⟨m, hm⟩ : ∃ m, l.set 0 (l.getD 0 0 + 5 * H) = m := ⟨_, rfl⟩
  have hm5 : m.length = 5 := by rw [← hm]; simp [h5]
  have hmM : Le m 18000000000000000000 := fun k => by
    rw [← hm, getD_setN]
    have := hM k
    have := hM 0
    split
    · split <;> omega
    · omega
  have hmv : valL m = valL l + 5 * H := by
    rw [← hm]
    have := val_set 67108864 l 0 (5 * H) (by omega)
    unfold valL
    rw [this]
    omega
  have HC2 := Lib.hid (fun w => carried_any m hm5 hmM w)
  have HMD := Lib.hid (show digs 67108864 5 (valL m) = digs 67108864 5 (valL l % PP) by rw [← hred, ← hmv, digs_mod])
  have HMV := Lib.hid (show (limbsV m).length = 5 by rw [limbsV_len, hm5])
  have HMO := Lib.hid (fun x hx => limbsV_one m x hx)
  have HRW := Lib.hid (show ∀ W : World, Row W G 69 (limbsV l) → Row (W.setCell ⟨G, 0, none⟩ (.int .u64 ((l.getD 0 0 : Nat) + 5 * (H : Int)))) G 69 (limbsV m) from fun W h => by
    rw [← hm, ← limbsV_set]
    exact h.set 0 _)
  have HF0 := Lib.hid (show ∀ W : World, Row W G 69 (limbsV l) → W.cell? ⟨G, 0, none⟩ = some (.int .u64 ((l.getD 0 0 : Nat) : Int)) from fun W h => h.cell (limbsV_at l 0 (by omega)))
  generalize l.getD 0 0 = d at *
  have HHH := Lib.hid hHH
  clear hm hmM hm5 hmv hred hlow hv hS hM hf5 h5 hl hHH
  have HH := Lib.hid hH
  go_enter Try.func46, Try.ntmps46
  go_wp2_with (refine wpList_load_row _ rfl _ 69 rfl G 69 (limbsV l) _ rfl R0.out Try.underlying69 rfl (by rw [HLV.out]; kernel_rfl) ?_)
  clear hG hW0
  refine (HSUM.out _).mono ?_
  rintro e w1 ⟨rfl, hg1⟩
  have R0a := Lib.hid (R0.out.grown0 hg1)
  have R1a := Lib.hid (R1.out.grown0 hg1)
  have HGa := Lib.hid (HGR.out.trans hg1)
  clear hg1 R0 R1 HGR HSUM
  go_wp2_with fail
  refine (HC1.out _).mono ?_
  rintro e w2 ⟨rfl, hg2⟩
  have R0 := Lib.hid (R0a.out.grown0 hg2)
  have R1 := Lib.hid (R1a.out.grown0 hg2)
  have HGR := Lib.hid (HGa.out.trans hg2)
  clear hg2 R0a R1a HGa HC1
  rw [HHH.out]
  generalize digs 67108864 5 (valL (sumN l five0)) = D at *
  have HDV := Lib.hid (show (limbsV D).length = 5 by rw [limbsV_len, HDL.out])
  have HDO := Lib.hid (fun x hx => limbsV_one D x hx)
  have HGW := Lib.hid (show G + 1 < w2.heap.size from R1.out.lt)
  have HWW := Lib.hid (show w.heap.size ≤ w2.heap.size from HGR.out.size)
  go_wp2_with (first
    | (refine wpList_store_row _ rfl rfl _ _ 69 rfl w2.heap.size 69 (noughts64 5) (limbsV D) rfl rfl (Row.new w2 69 (noughts64 5)) (by rw [HDV.out]; rfl) HDO.out (by rw [HDV.out]; kernel_rfl) ?_; intro w3 hr3 hg3; have hra := (R0.out.alloc (.cells (noughts64 5).toArray 69)).grown hg3 (by have := HGW.out; simp; omega); have HR1 := Lib.hid ((R1.out.alloc (.cells (noughts64 5).toArray 69)).grown hg3 (by have := HGW.out; simp; omega)); have HG3 := Lib.hid (grown_own (grown_alloc HGR.out (.cells (noughts64 5).toArray 69)) hg3 HWW.out); have hc0 := HF0.out w3 hra; have hf0 := hra.frozen 0; have HR0 := Lib.hid (HRW.out w3 hra); clear hr3 hg3 hra)
    | refine wpList_load_row _ rfl _ 69 rfl G 69 (limbsV m) _ rfl HR0.out Try.underlying69 rfl (by rw [HMV.out]; kernel_rfl) ?_)
  refine (HC2.out _).mono ?_
  rintro e w4 ⟨rfl, hg4⟩
  have R0a := Lib.hid (HR0.out.grown0 hg4)
  have R1a := Lib.hid ((HR1.out.other (i := 0) (by omega) (.int .u64 ((d : Int) + 5 * (H : Int)))).grown0 hg4)
  have HGa := Lib.hid ((grown_own HG3.out (grown_set w3 G 0 (.int .u64 ((d : Int) + 5 * (H : Int)))) (by have := HG.out; omega)).trans hg4)
  rw [HMD.out]
  have HL := Lib.hid (show (limbsV (digs 67108864 5 (valL l % PP))).length = 5 by rw [limbsV_len, digs_len])
  have HO := Lib.hid (fun x hx => limbsV_one (digs 67108864 5 (valL l % PP)) x hx)
  clear hg4 R0 R1 HGR HR0 HR1 HG3 HC2 hc0 hf0
  generalize limbsV (digs 67108864 5 (valL l % PP)) = xs at *
  go_wp2_with (first
    | (refine wpList_store_row _ rfl rfl _ _ 69 rfl G 69 (limbsV m) xs rfl rfl R0a.out (by rw [HL.out, HMV.out]) HO.out (by rw [HL.out]; kernel_rfl) ?_; intro w5 hr5 hg5)
    | refine wpList_load_row _ rfl _ 69 rfl G 69 xs _ rfl hr5 Try.underlying69 rfl (by rw [HL.out]; kernel_rfl) ?_
    | (refine wpList_store_row _ rfl rfl _ _ 69 rfl (G + 1) 69 (noughts64 5) xs rfl rfl (R1a.out.grown hg5 (by simp)) (by rw [HL.out]; rfl) HO.out (by rw [HL.out]; kernel_rfl) ?_; intro w6 hr6 hg6))
  refine bodyPost_ret (v := .agg xs.toArray) ?_ rfl ⟨rfl, grown_own (grown_own HGa.out hg5 (by have := HG.out; omega)) hg6 (by have := HG.out; omega)⟩
  exact results_row Try.results46 (G + 1) 69 xs _ rfl hr6 Try.underlying69 rfl (by rw [HL.out]; kernel_rfl)
end Go.Proofs.Ytjcbdplbekecjaa
