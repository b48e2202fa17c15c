/-
  poly.Clamp, poly.widened, poly.numberOf and poly.factor over this program.
-/
import Derived.Test.YtjcbdplbekecjaaPolSum
import Derived.Test.YtjcbdplbekecjaaCopyGen
namespace Go.Proofs.Ytjcbdplbekecjaa
open Go.RowKit

def mapR (f : Nat → UInt8) : List UInt8 := (List.range 16).map f
theorem mapR_len (f : Nat → UInt8) : (mapR f).length = 16 := by simp [mapR]
theorem mapR_at (f : Nat → UInt8) (k : Nat) (h : k < 16) : (mapR f).getD k 0 = f k := by simp [mapR, h]
theorem mapR_set (f g : Nat → UInt8) (k : Nat) (v : UInt8) (h : ∀ i, i < 16 → (if i = k then v else f i) = g i) : (mapR f).set k v = mapR g := by
  apply List.ext_getElem?
  intro i
  rw [List.getElem?_set]
  by_cases hi : i < 16
  · have := h i hi
    simp only [mapR, List.length_map, List.length_range, List.getElem?_map, List.getElem?_range hi, Option.map_some]
    by_cases hk : k = i
    · subst hk
      simpa [hi] using this
    · rw [if_neg hk]
      rw [if_neg (fun e => hk e.symm)] at this
      rw [this]
  · simp [mapR, hi]
    omega
def st1 (r : List UInt8) (j i : Nat) : UInt8 := if i % 4 = 3 ∧ i < 4 * j + 3 then UInt8.ofNat ((r.getD i 0).toNat % 16) else r.getD i 0
def st2 (r : List UInt8) (j i : Nat) : UInt8 := if i % 4 = 3 then UInt8.ofNat ((r.getD i 0).toNat % 16) else if i % 4 = 0 ∧ 0 < i ∧ i < 4 * j + 4 then UInt8.ofNat ((r.getD i 0).toNat / 4 * 4) else r.getD i 0
theorem st1_none (r : List UInt8) (h : r.length = 16) : mapR (st1 r 0) = r := by
  apply List.ext_getElem?
  intro i
  by_cases hi : i < 16
  · simp only [mapR, List.getElem?_map, List.getElem?_range hi, Option.map_some, st1]
    rw [if_neg (by omega), List.getD_eq_getElem?_getD, List.getElem?_eq_getElem (by omega)]
    rfl
  · rw [List.getElem?_eq_none (by rw [mapR_len]; omega), List.getElem?_eq_none (by omega)]
theorem mapR_congr (f g : Nat → UInt8) (h : ∀ i, i < 16 → f i = g i) : mapR f = mapR g := List.map_congr_left (fun i hi => h i (by simpa using hi))
theorem st1_all (r : List UInt8) : mapR (st1 r 4) = mapR (st2 r 0) := by
  apply mapR_congr
  intro i hi
  unfold st1 st2
  by_cases h3 : i % 4 = 3
  · rw [if_pos (by omega), if_pos h3]
  · rw [if_neg (by omega), if_neg h3, if_neg (by omega)]
theorem st2_all (r : List UInt8) : mapR (st2 r 3) = clampB r := by
  unfold clampB
  apply mapR_congr
  intro i hi
  unfold st2 clr
  by_cases h3 : i % 4 = 3
  · rw [if_pos h3, if_pos h3]
  · rw [if_neg h3, if_neg h3]
    by_cases h0 : i % 4 = 0 ∧ 0 < i
    · rw [if_pos (by omega), if_pos h0]
    · rw [if_neg (by omega), if_neg h0]
theorem st1_next (r : List UInt8) (j : Nat) : (mapR (st1 r j)).set (4 * j + 3) (UInt8.ofNat ((r.getD (4 * j + 3) 0).toNat % 16)) = mapR (st1 r (j + 1)) := by
  apply mapR_set
  intro i hi
  unfold st1
  by_cases h : i = 4 * j + 3
  · subst h
    rw [if_pos rfl, if_pos (by omega)]
  · rw [if_neg h]
    by_cases h3 : i % 4 = 3 ∧ i < 4 * j + 3
    · rw [if_pos h3, if_pos (by omega)]
    · rw [if_neg h3, if_neg (by omega)]
theorem st2_next (r : List UInt8) (j : Nat) : (mapR (st2 r j)).set (4 * j + 4) (UInt8.ofNat ((r.getD (4 * j + 4) 0).toNat / 4 * 4)) = mapR (st2 r (j + 1)) := by
  apply mapR_set
  intro i hi
  unfold st2
  by_cases h : i = 4 * j + 4
  · subst h
    rw [if_pos rfl, if_neg (by omega), if_pos (by omega)]
  · rw [if_neg h]
    by_cases h3 : i % 4 = 3
    · rw [if_pos h3, if_pos h3]
    · rw [if_neg h3, if_neg h3]
      by_cases h0 : i % 4 = 0 ∧ 0 < i ∧ i < 4 * j + 4
      · rw [if_pos h0, if_pos (by omega)]
      · rw [if_neg h0, if_neg (by omega)]
theorem and252' : ∀ c : Fin 256, c.val &&& 252 = c.val / 4 * 4 := by decide +kernel
theorem and15 (c : UInt8) : (c.toNat : Int) % 16 = ((UInt8.ofNat (c.toNat % 16)).toNat : Int) := by
  have hc := UInt8.toNat_lt c
  rw [UInt8.toNat_ofNat']
  omega
theorem and252 (c : UInt8) : bits .and .u8 (c.toNat : Int) 252 = ((UInt8.ofNat (c.toNat / 4 * 4)).toNat : Int) := by
  have hc := UInt8.toNat_lt c
  have := u8_and_nat c.toNat 252 hc (by decide)
  rw [show (252 : Int) = ((252 : Nat) : Int) from rfl, this, UInt8.toNat_ofNat']
  congr 1
  rw [and252' ⟨c.toNat, hc⟩]
  show c.toNat / 4 * 4 = _
  omega

set_option maxHeartbeats 4000000 in
theorem clamp_any (r : List UInt8) (h16 : r.length = 16) (w : World) :
    Calls Try.prog 58 #[.agg (bytesV r).toArray] w (Val (.agg (bytesV (clampB r)).toArray) w) := by
  generalize hG : w.heap.size = G
  have HG := Lib.hid hG
  obtain ⟨W0, hW0⟩ : ∃ W, (w.alloc (.cells (bytesV r).toArray 37)).alloc (.cells (noughts8 16).toArray 37) = W := ⟨_, rfl⟩
  have R0 := Lib.hid (show Row W0 G 37 (bytesV r) by rw [← hW0]; exact (Row.newAt w _ (bytesV r) hG).alloc _)
  have R1 := Lib.hid (show Row W0 (G + 1) 37 (noughts8 16) by rw [← hW0]; exact Row.newAt _ _ (noughts8 16) (by simp [hG]))
  have HGR := Lib.hid (show w.grownBy W0 none by rw [← hW0]; exact grown_alloc (grown_alloc (grown_refl _ _) _) _)
  simp only [noughts8, List.replicate] at hW0
  have H16 := Lib.hid h16
  clear h16
  go_enter Try.func58, Try.ntmps58
  go_wp2
  clear hG hW0
  go_loopw [3] (fun i W => ∃ j : Nat, j ≤ 4 ∧ i = .int .i64 ((4 * j + 3 : Nat) : Int) ∧ Row W G 37 (bytesV (mapR (st1 r j))) ∧ Row W (G + 1) 37 (noughts8 16) ∧ w.grownBy W none) (fun i _ => 20 - (intOf i).toNat)
  case atStart => exact ⟨0, Nat.zero_le _, rfl, by rw [st1_none r H16.out]; exact R0.out, R1.out, HGR.out⟩
  case round =>
    clear R0 R1 HGR
    obtain ⟨j, hj, rfl, r0, r1, hgr⟩ := hrel
    have R0 := Lib.hid r0
    have R1 := Lib.hid r1
    have HGR := Lib.hid hgr
    by_cases hlt : j < 4
    · have c0 := r0.cell (bytesV_at (mapR (st1 r j)) (4 * j + 3) (by rw [mapR_len]; omega))
      rw [mapR_at _ _ (by omega), show st1 r j (4 * j + 3) = r.getD (4 * j + 3) 0 by unfold st1; rw [if_neg (by omega)]] at c0
      have f0 := r0.frozen (4 * j + 3)
      have HS := Lib.hid (st1_next r j)
      have HA := Lib.hid (and15 (r.getD (4 * j + 3) 0))
      generalize r.getD (4 * j + 3) 0 = x at *
      have hx := UInt8.toNat_lt x
      clear r0 r1 hgr
      have hdec : decide (((4 * j + 3 : Nat) : Int) < 16) = true := by simp; omega
      generalize hi : 4 * j + 3 = i at *
      go_wp2
      rw [HA.out]
      go_roundw
      case rel =>
        refine ⟨j + 1, by omega, congrArg (Value.int .i64) (by omega), ?_, R1.out.other (by omega) _, grown_own HGR.out (grown_set wr G i _) (by have := HG.out; omega)⟩
        rw [← HS.out, ← bytesV_set]
        exact R0.out.set i _
      case measure => simp [intOf]; omega
    · have hj4 : j = 4 := by omega
      subst hj4
      rw [st1_all] at R0
      clear r0 r1 hgr hj hlt
      go_wp2
      go_loopw [4] (fun i W => ∃ j : Nat, j ≤ 3 ∧ i = .int .i64 ((4 * j + 4 : Nat) : Int) ∧ Row W G 37 (bytesV (mapR (st2 r j))) ∧ Row W (G + 1) 37 (noughts8 16) ∧ w.grownBy W none) (fun i _ => 20 - (intOf i).toNat)
      case atStart => exact ⟨0, Nat.zero_le _, rfl, R0.out, R1.out, HGR.out⟩
      case round =>
        clear R0 R1 HGR
        obtain ⟨j, hj, rfl, r0, r1, hgr⟩ := hrel
        have R0 := Lib.hid r0
        have R1 := Lib.hid r1
        have HGR := Lib.hid hgr
        by_cases hlt : j < 3
        · have c0 := r0.cell (bytesV_at (mapR (st2 r j)) (4 * j + 4) (by rw [mapR_len]; omega))
          rw [mapR_at _ _ (by omega), show st2 r j (4 * j + 4) = r.getD (4 * j + 4) 0 by unfold st2; rw [if_neg (by omega), if_neg (by omega)]] at c0
          have f0 := r0.frozen (4 * j + 4)
          have HS := Lib.hid (st2_next r j)
          have HA := Lib.hid (and252 (r.getD (4 * j + 4) 0))
          generalize r.getD (4 * j + 4) 0 = x at *
          have hx := UInt8.toNat_lt x
          clear r0 r1 hgr
          have hdec : decide (((4 * j + 4 : Nat) : Int) < 16) = true := by simp; omega
          generalize hi : 4 * j + 4 = i at *
          go_wp2
          rw [HA.out]
          go_roundw
          case rel =>
            refine ⟨j + 1, by omega, congrArg (Value.int .i64) (by omega), ?_, R1.out.other (by omega) _, grown_own HGR.out (grown_set wr G i _) (by have := HG.out; omega)⟩
            rw [← HS.out, ← bytesV_set]
            exact R0.out.set i _
          case measure => simp [intOf]; omega
        · have hj3 : j = 3 := by omega
          subst hj3
          rw [st2_all] at R0
          have HL := Lib.hid (show (bytesV (clampB r)).length = 16 by rw [bytesV_len, clampB_len])
          have HO := Lib.hid (fun x hx => bytesV_one (clampB r) x hx)
          clear r0 r1 hgr hj hlt
          generalize bytesV (clampB r) = xs at *
          go_wp2_with (first
            | refine wpList_load_row _ rfl _ 37 rfl G 37 xs _ rfl R0.out Try.underlying37 rfl (by rw [HL.out]; kernel_rfl) ?_
            | (refine wpList_store_row _ rfl rfl _ _ 37 rfl (G + 1) 37 (noughts8 16) xs rfl rfl R1.out (by rw [HL.out]; rfl) HO.out (by rw [HL.out]; kernel_rfl) ?_; intro w2 hr2 hg2))
          refine bodyPost_ret (v := .agg xs.toArray) ?_ rfl ⟨rfl, grown_own HGR.out hg2 (by have := HG.out; omega)⟩
          exact results_row Try.results58 (G + 1) 37 xs _ rfl hr2 Try.underlying37 rfl (by rw [HL.out]; kernel_rfl)

set_option maxHeartbeats 4000000 in
theorem widened_any (r : List UInt8) (h16 : r.length = 16) (w : World) :
    Calls Try.prog 57 #[.agg (bytesV r).toArray] w (Val (.agg (bytesV (r ++ [0])).toArray) w) := by
  generalize hG : w.heap.size = G
  have HG := Lib.hid hG
  obtain ⟨W0, hW0⟩ : ∃ W, ((w.alloc (.cells (bytesV r).toArray 37)).alloc (.cells (noughts8 17).toArray 71)).alloc (.cells (noughts8 17).toArray 71) = W := ⟨_, rfl⟩
  have R0 := Lib.hid (show Row W0 G 37 (bytesV r) by rw [← hW0]; exact ((Row.newAt w _ (bytesV r) hG).alloc _).alloc _)
  have R1 := Lib.hid (show Row W0 (G + 1) 71 (noughts8 17) by rw [← hW0]; exact (Row.newAt _ _ (noughts8 17) (by simp [hG])).alloc _)
  have R2 := Lib.hid (show Row W0 (G + 1 + 1) 71 (noughts8 17) by rw [← hW0]; exact Row.newAt _ _ (noughts8 17) (by simp [hG]))
  have HGR := Lib.hid (show w.grownBy W0 none by rw [← hW0]; exact grown_alloc (grown_alloc (grown_alloc (grown_refl _ _) _) _) _)
  simp only [noughts8, List.replicate] at hW0
  have HRL := Lib.hid (show (bytesV r).length = 16 by rw [bytesV_len, h16])
  have HRO := Lib.hid (fun x hx => bytesV_one r x hx)
  obtain ⟨w1, hrun, hr1, hg1⟩ := run_copy_gen (P := Try.prog) W0.drew 24 3 5 Try.underlying24 (by kernel_rfl) (G + 1 + 1) 0 17 17 _ (bytesV r) (R0.out.drew.rds 16 16 HRL.out (by decide) (by decide)) HRO.out (noughts8 17) 71 R2.out.drew (by decide)
  have he : splice (noughts8 17) 0 ((bytesV r).take 17) = bytesV (r ++ [0]) := by
    rw [splice_zero, List.take_of_length_le (by rw [HRL.out]; decide), HRL.out, bytesV_app]
    rfl
  rw [he] at hr1
  rw [HRL.out] at hrun
  have hrun' : (Builtin.copy_ #[24, 24] 3 #[.slice (some ⟨G + 1 + 1, 0, none⟩) 17 17, .slice (some ⟨G, 0, none⟩) 16 16]).run Try.prog W0.drew = .ok (.int .i64 16) w1 := hrun
  have HR1 := Lib.hid hr1
  have HRS := Lib.hid ((R1.out.drew).grown hg1 (by simp))
  have HG1 := Lib.hid (grown_own (grown_drew HGR.out) hg1 (by have := HG.out; omega))
  have HL := Lib.hid (show (bytesV (r ++ [0])).length = 17 by rw [bytesV_len, List.length_append, h16]; rfl)
  have HO := Lib.hid (fun x hx => bytesV_one (r ++ [0]) x hx)
  clear he hr1 hg1 hrun h16
  generalize bytesV (r ++ [0]) = xs at *
  go_enter Try.func57, Try.ntmps57
  go_wp2
  go_region
  go_wp2_with (first
    | refine wpList_load_row _ rfl _ 71 rfl (G + 1 + 1) 71 xs _ rfl HR1.out Try.underlying71 rfl (by rw [HL.out]; kernel_rfl) ?_
    | (refine wpList_store_row _ rfl rfl _ _ 71 rfl (G + 1) 71 (noughts8 17) xs rfl rfl HRS.out (by rw [HL.out]; rfl) HO.out (by rw [HL.out]; kernel_rfl) ?_; intro w2 hr2 hg2))
  refine bodyPost_ret (v := .agg xs.toArray) ?_ rfl ⟨rfl, grown_own HG1.out hg2 (by have := HG.out; omega)⟩
  exact results_row Try.results57 (G + 1) 71 xs _ rfl hr2 Try.underlying71 rfl (by rw [HL.out]; kernel_rfl)

def numsK (b : List UInt8) (k : Nat) : List Nat := digs 67108864 k (le b) ++ List.replicate (5 - k) 0
theorem numsK_len (b : List UInt8) (k : Nat) (h : k ≤ 5) : (numsK b k).length = 5 := by simp [numsK, digs_len]; omega
theorem numsK_set (b : List UInt8) (k : Nat) (h : k < 5) : (numsK b k).set k (le b / 67108864 ^ k % 67108864) = numsK b (k + 1) := by
  unfold numsK
  rw [List.set_append_right _ _ (by rw [digs_len]; exact Nat.le_refl _), digs_len, Nat.sub_self, show 5 - k = 5 - (k + 1) + 1 by omega, List.replicate_succ, List.set_cons_zero, digs_more]
  simp
theorem slice17 (g o : Nat) (ho : o ≤ 13) (w : World) : (Instr.sliceAt 71 (.pointer (some ⟨g, 0, none⟩)) (some (.int .i64 (o : Int))) none none).run Try.prog w = .ok (.slice (some ⟨g, o, none⟩) (17 - o) (17 - o)) w := by
  have h4 : ((o : Int)).toNat = o := by omega
  simp [Instr.sliceAt, go_sem, Instr.sliceBounds, Addr.add]
  rw [if_pos (by omega), if_neg (by omega)]
  split
  · next h => rw [h]
  · rfl

set_option maxHeartbeats 4000000 in
theorem numberOf_any (b : List UInt8) (h17 : b.length = 17) (w : World) :
    Calls Try.prog 43 #[.agg (bytesV b).toArray] w (Val (.agg (limbsV (digs 67108864 5 (le b))).toArray) w) := by
  generalize hG : w.heap.size = G
  have HG := Lib.hid hG
  obtain ⟨W0, hW0⟩ : ∃ W, ((w.alloc (.cells (bytesV b).toArray 71)).alloc (.cells (noughts64 5).toArray 69)).alloc (.cells (noughts64 5).toArray 69) = W := ⟨_, rfl⟩
  have R0 := Lib.hid (show Row W0 G 71 (bytesV b) by rw [← hW0]; exact ((Row.newAt w _ (bytesV b) hG).alloc _).alloc _)
  have R1 := Lib.hid (show Row W0 (G + 1) 69 (noughts64 5) by rw [← hW0]; exact (Row.newAt _ _ (noughts64 5) (by simp [hG])).alloc _)
  have R2 := Lib.hid (show Row W0 (G + 1 + 1) 69 (noughts64 5) by rw [← hW0]; exact Row.newAt _ _ (noughts64 5) (by simp [hG]))
  have HGR := Lib.hid (show w.grownBy W0 none by rw [← hW0]; exact grown_alloc (grown_alloc (grown_alloc (grown_refl _ _) _) _) _)
  simp only [noughts64, List.replicate] at hW0
  have H17 := Lib.hid h17
  clear h17
  go_enter Try.func43, Try.ntmps43
  go_wp2
  clear hG hW0
  go_loopw [7] (fun i W => ∃ k : Nat, k ≤ 5 ∧ i = .int .i64 k ∧ Row W G 71 (bytesV b) ∧ Row W (G + 1) 69 (noughts64 5) ∧ Row W (G + 1 + 1) 69 (limbsV (numsK b k)) ∧ w.grownBy W none) (fun i _ => 5 - (intOf i).toNat)
  case atStart => exact ⟨0, Nat.zero_le _, rfl, R0.out, R1.out, R2.out, HGR.out⟩
  case round =>
    clear R0 R1 R2 HGR
    obtain ⟨k, hk, rfl, r0, r1, r2, hgr⟩ := hrel
    have R0 := Lib.hid r0
    have R1 := Lib.hid r1
    have R2 := Lib.hid r2
    have HGR := Lib.hid hgr
    clear r0 r1 r2 hgr
    by_cases hlt : k < 5
    · have HP := Lib.hid (fun w => limbPlace_any k hlt w)
      have HLA := Lib.hid (limb_at (le b) k hlt)
      have HNS := Lib.hid (numsK_set b k hlt)
      have HNL := Lib.hid (numsK_len b k hk)
      have hat : 26 * k / 8 ≤ 13 := by omega
      have hbit : 26 * k % 8 ≤ 7 := by omega
      generalize 26 * k / 8 = at_ at *
      generalize 26 * k % 8 = bit at *
      have hsl := slice17 G at_ hat
      have HAT := Lib.hid hat
      clear hat
      go_wp2_with fail
      refine (HP.out _).mono ?_
      rintro e w1 ⟨rfl, hg1⟩
      have R0a := Lib.hid (R0.out.grown0 hg1)
      have R1a := Lib.hid (R1.out.grown0 hg1)
      have R2a := Lib.hid (R2.out.grown0 hg1)
      have HGa := Lib.hid (HGR.out.trans hg1)
      clear R0 R1 R2 HGR hg1 HP
      have HC := Lib.hid (fun w h => pword_any b G at_ (17 - at_) (17 - at_) 71 w h (by have := HAT.out; have := H17.out; omega) (by have := HAT.out; omega))
      go_wp2_with fail
      refine (HC.out _ R0a.out).mono ?_
      rintro e w2 ⟨rfl, hg2⟩
      have R0 := Lib.hid (R0a.out.grown0 hg2)
      have R1 := Lib.hid (R1a.out.grown0 hg2)
      have r2 := R2a.out.grown0 hg2
      have HGR := Lib.hid (HGa.out.trans hg2)
      have c2 := r2.cell (limbsV_at (numsK b k) k (by rw [HNL.out]; exact hlt))
      have f2 := r2.frozen k
      have R2 := Lib.hid r2
      have hX : le b / 256 ^ at_ % 4294967296 < 4294967296 := Nat.mod_lt _ (by decide)
      unfold limbV
      generalize le b / 256 ^ at_ % 4294967296 = X at *
      clear R0a R1a R2a HGa HC hg2 r2 hsl
      have HA := Lib.hid (show bits .and .u64 ((X : Int) / 2 ^ bit) 67108863 = ((le b / 67108864 ^ k % 67108864 : Nat) : Int) by
        have e : ((X / 2 ^ bit : Nat) : Int) = (X : Int) / 2 ^ bit := by simp
        have hd := Nat.div_le_self X (2 ^ bit)
        rw [← e, and26 _ (by omega), HLA.out])
      go_wp2
      rw [HA.out]
      go_roundw
      case rel =>
        refine ⟨k + 1, by omega, by go_num, R0.out.other (by omega) _, R1.out.other (by omega) _, ?_, grown_own HGR.out (grown_set w2 (G + 1 + 1) k _) (by have := HG.out; omega)⟩
        rw [← HNS.out, ← limbsV_set]
        exact R2.out.set k _
      case measure => simp [intOf]; omega
    · have hk5 : k = 5 := by omega
      subst hk5
      rw [show numsK b 5 = digs 67108864 5 (le b) by simp [numsK]] at R2
      have HL := Lib.hid (show (limbsV (digs 67108864 5 (le b))).length = 5 by rw [limbsV_len, digs_len])
      have HO := Lib.hid (fun x hx => limbsV_one (digs 67108864 5 (le b)) x hx)
      clear hk hlt
      generalize limbsV (digs 67108864 5 (le b)) = xs at *
      go_wp2_with (first
        | refine wpList_load_row _ rfl _ 69 rfl (G + 1 + 1) 69 xs _ rfl R2.out Try.underlying69 rfl (by rw [HL.out]; kernel_rfl) ?_
        | (refine wpList_store_row _ rfl rfl _ _ 69 rfl (G + 1) 69 (noughts64 5) xs rfl rfl R1.out (by rw [HL.out]; rfl) HO.out (by rw [HL.out]; kernel_rfl) ?_; intro w2 hr2 hg2))
      refine bodyPost_ret (v := .agg xs.toArray) ?_ rfl ⟨rfl, grown_own HGR.out hg2 (by have := HG.out; omega)⟩
      exact results_row Try.results43 (G + 1) 69 xs _ rfl hr2 Try.underlying69 rfl (by rw [HL.out]; kernel_rfl)
theorem le_wide (r : List UInt8) : le (r ++ [0]) = le r := by rw [le_app]; simp [le, byt, val]

set_option maxHeartbeats 4000000 in
theorem factor_any (r : List UInt8) (h16 : r.length = 16) (w : World) :
    Calls Try.prog 40 #[.agg (bytesV r).toArray] w (Val (.agg (limbsV (digs 67108864 5 (le (clampB r)))).toArray) w) := by
  generalize hG : w.heap.size = G
  have HG := Lib.hid hG
  obtain ⟨W0, hW0⟩ : ∃ W, (w.alloc (.cells (bytesV r).toArray 37)).alloc (.cells (noughts64 5).toArray 69) = W := ⟨_, rfl⟩
  have R0 := Lib.hid (show Row W0 G 37 (bytesV r) by rw [← hW0]; exact (Row.newAt w _ (bytesV r) hG).alloc _)
  have R1 := Lib.hid (show Row W0 (G + 1) 69 (noughts64 5) by rw [← hW0]; exact Row.newAt _ _ (noughts64 5) (by simp [hG]))
  have HGR := Lib.hid (show w.grownBy W0 none by rw [← hW0]; exact grown_alloc (grown_alloc (grown_refl _ _) _) _)
  simp only [noughts64, List.replicate] at hW0
  have HRL := Lib.hid (show (bytesV r).length = 16 by rw [bytesV_len, h16])
  have H1 := Lib.hid (fun w => clamp_any r h16 w)
  have H2 := Lib.hid (fun w => widened_any (clampB r) (clampB_len r) w)
  have H3 := Lib.hid (fun w => numberOf_any (clampB r ++ [0]) (by rw [List.length_append, clampB_len]; rfl) w)
  rw [le_wide] at H3
  have HL := Lib.hid (show (limbsV (digs 67108864 5 (le (clampB r)))).length = 5 by rw [limbsV_len, digs_len])
  have HO := Lib.hid (fun x hx => limbsV_one (digs 67108864 5 (le (clampB r))) x hx)
  generalize limbsV (digs 67108864 5 (le (clampB r))) = xs at *
  clear h16
  go_enter Try.func40, Try.ntmps40
  go_wp2_with (refine wpList_load_row _ rfl _ 37 rfl G 37 (bytesV r) _ rfl R0.out Try.underlying37 rfl (by rw [HRL.out]; kernel_rfl) ?_)
  clear hG hW0
  refine (H1.out _).mono ?_
  rintro e w1 ⟨rfl, hg1⟩
  have HG1 := Lib.hid hg1
  clear hg1
  go_wp2_with fail
  refine (H2.out _).mono ?_
  rintro e w2 ⟨rfl, hg2⟩
  have HG2 := Lib.hid hg2
  clear hg2
  go_wp2_with fail
  refine (H3.out _).mono ?_
  rintro e w3 ⟨rfl, hg3⟩
  have HG3 := Lib.hid ((HG1.out.trans HG2.out).trans hg3)
  clear hg3
  go_wp2_with (refine wpList_store_row _ rfl rfl _ _ 69 rfl (G + 1) 69 (noughts64 5) xs rfl rfl (R1.out.grown0 HG3.out) (by rw [HL.out]; rfl) HO.out (by rw [HL.out]; kernel_rfl) ?_; intro w4 hr4 hg4)
  refine bodyPost_ret (v := .agg xs.toArray) ?_ rfl ⟨rfl, grown_own (HGR.out.trans HG3.out) hg4 (by have := HG.out; omega)⟩
  exact results_row Try.results40 (G + 1) 69 xs _ rfl hr4 Try.underlying69 rfl (by rw [HL.out]; kernel_rfl)
end Go.Proofs.Ytjcbdplbekecjaa
