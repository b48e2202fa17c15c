/-
  poly.product over this program: a times r, modulo p, folded.
-/
import Derived.Test.YtjcbdplbekecjaaPolNum
namespace Go.Proofs.Ytjcbdplbekecjaa
open Go.RowKit

set_option maxHeartbeats 8000000 in
theorem product_any (a r : List Nat) (ha : Low a 8589934592 134217728) (hr : Fac r) (w : World) :
    Calls Try.prog 41 #[.agg (limbsV a).toArray, .agg (limbsV r).toArray] w (Val (.agg (limbsV (foldN (prodN a r))).toArray) w) := by
  generalize hG : w.heap.size = G
  have HG := Lib.hid hG
  have HA5 := Lib.hid ha.1
  have HR5 := Lib.hid hr.1
  have HM := Lib.hid (wide_le2 a r ha hr)
  have HW := Lib.hid (fun i => wide_le a r _ (wide_le2 a r ha hr) i)
  have HFO := Lib.hid (fun w => folded_any (prodN a r) (prod_len a r) (fun k => by have := prod_le a r ha hr k; omega) (fold_low _ (prod_len a r) (prod_le a r ha hr) (prod_top a r ha hr)).2 w)
  have HAV := Lib.hid (show (limbsV a).length = 5 by rw [limbsV_len, ha.1])
  have HRV := Lib.hid (show (limbsV r).length = 5 by rw [limbsV_len, hr.1])
  obtain ⟨W0, hW0⟩ : ∃ W, (((w.alloc (.cells (limbsV a).toArray 69)).alloc (.cells (limbsV r).toArray 69)).alloc (.cells (noughts64 5).toArray 69)).alloc (.cells (noughts64 9).toArray 90) = W := ⟨_, rfl⟩
  have R0 := Lib.hid (show Row W0 G 69 (limbsV a) by rw [← hW0]; exact (((Row.newAt w _ (limbsV a) hG).alloc _).alloc _).alloc _)
  have R1 := Lib.hid (show Row W0 (G + 1) 69 (limbsV r) by rw [← hW0]; exact ((Row.newAt _ _ (limbsV r) (by simp [hG])).alloc _).alloc _)
  have R2 := Lib.hid (show Row W0 (G + 1 + 1) 69 (noughts64 5) by rw [← hW0]; exact (Row.newAt _ _ (noughts64 5) (by simp [hG])).alloc _)
  have R3 := Lib.hid (show Row W0 (G + 1 + 1 + 1) 90 (limbsV (wideK a r 0)) by rw [← hW0]; exact Row.newAt _ _ (noughts64 9) (by simp [hG]))
  have HGR := Lib.hid (show w.grownBy W0 none by rw [← hW0]; exact grown_alloc (grown_alloc (grown_alloc (grown_alloc (grown_refl _ _) _) _) _) _)
  simp only [noughts64, List.replicate] at hW0
  clear ha hr
  go_enter Try.func41, Try.ntmps41
  go_wp2_with (refine wpList_load_row _ rfl _ 69 rfl G 69 (limbsV a) _ rfl R0.out Try.underlying69 rfl (by rw [HAV.out]; kernel_rfl) ?_)
  clear hG hW0
  go_loopw [14] (fun i W => ∃ k : Nat, k ≤ 5 ∧ i = .int .i64 k ∧ Row W (G + 1) 69 (limbsV r) ∧ Row W (G + 1 + 1) 69 (noughts64 5) ∧ Row W (G + 1 + 1 + 1) 90 (limbsV (wideK a r k)) ∧ w.grownBy W none) (fun i _ => 5 - (intOf i).toNat)
  case atStart => exact ⟨0, Nat.zero_le _, rfl, R1.out, R2.out, R3.out, HGR.out⟩
  case round =>
    clear R0 R1 R2 R3 HGR
    obtain ⟨i, hi, rfl, r1, r2, r3, hgr⟩ := hrel
    have R1 := Lib.hid r1
    have R2 := Lib.hid r2
    have R3 := Lib.hid r3
    have HGR := Lib.hid hgr
    clear r1 r2 r3 hgr
    by_cases hlt : i < 5
    · have hidx := index_limb a HA5.out i hlt
      have HX := Lib.hid (HM.out i)
      have HWI := Lib.hid (HW.out i)
      have HWN := Lib.hid (show wideK a r (i + 1) = inn (a.getD i 0) r i 5 (wideK a r i) from rfl)
      have HWL := Lib.hid (wide_len a r i)
      generalize wideK a r i = o at *
      generalize a.getD i 0 = x at *
      have HII := Lib.hid (And.intro hi hlt)
      have hdec : decide ((i : Int) < 5) = true := by simp; omega
      clear hi
      go_wp2_with (refine wpList_load_row _ rfl _ 69 rfl (G + 1) 69 (limbsV r) _ rfl R1.out Try.underlying69 rfl (by rw [HRV.out]; kernel_rfl) ?_)
      clear hidx
      go_loopw [19] (fun q W => ∃ k : Nat, k ≤ 5 ∧ q = .int .i64 k ∧ Row W (G + 1) 69 (limbsV r) ∧ Row W (G + 1 + 1) 69 (noughts64 5) ∧ Row W (G + 1 + 1 + 1) 90 (limbsV (inn x r i k o)) ∧ w.grownBy W none) (fun q _ => 5 - (intOf q).toNat)
      case atStart => exact ⟨0, Nat.zero_le _, rfl, R1.out, R2.out, R3.out, HGR.out⟩
      case round =>
        clear R1 R2 R3 HGR
        obtain ⟨j, hj, rfl, r1, r2, r3, hgr⟩ := hrel
        have R1 := Lib.hid r1
        have R2 := Lib.hid r2
        have R3 := Lib.hid r3
        have HGR := Lib.hid hgr
        clear r1 r2 hgr
        by_cases hlj : j < 5
        · have hidx := index_limb r HR5.out j hlj
          have hc := r3.cell (limbsV_at (inn x r i j o) (i + j) (by rw [inn_len, HWL.out]; omega))
          have hf := r3.frozen (i + j)
          have hb := inn_le x r i o _ _ HX.out HWI.out j (i + j)
          have hq := HX.out j
          have HS := Lib.hid (show inn x r i (j + 1) o = (inn x r i j o).set (i + j) ((inn x r i j o).getD (i + j) 0 + x * r.getD j 0) from rfl)
          generalize r.getD j 0 = y at *
          generalize (inn x r i j o).getD (i + j) 0 = z at *
          have hpr : (x : Int) * (y : Int) = ((x * y : Nat) : Int) := (Int.natCast_mul x y).symm
          generalize x * y = q at *
          have hz : z ≤ 17000000000000000000 := by
            have := Nat.mul_le_mul_right 576460752303423488 (show i ≤ 5 by omega)
            omega
          have HJJ := Lib.hid (And.intro hj hlj)
          clear r3 hb hj
          go_wp2
          go_roundw
          case rel =>
            refine ⟨j + 1, by have := HJJ.out.2; omega, by go_num, R1.out.other (by omega) _, R2.out.other (by omega) _, ?_, grown_own HGR.out (grown_set wr (G + 1 + 1 + 1) (i + j) _) (by have := HG.out; omega)⟩
            have := R3.out.set (i + j) (.int .u64 ((z + q : Nat) : Int))
            rw [limbsV_set, ← HS.out] at this
            exact this
          case measure => have := HJJ.out.2; simp [intOf]; omega
        · have hj5 : j = 5 := by omega
          rw [hj5, ← HWN.out] at R3
          clear hj5 r3
          go_wp2
          go_roundw
          case rel => exact ⟨i + 1, by have := HII.out.2; omega, by go_num, R1.out, R2.out, R3.out, HGR.out⟩
          case measure => have := HII.out.2; simp [intOf]; omega
    · have hi5 : i = 5 := by omega
      subst hi5
      have HWL := Lib.hid (wide_len a r 5)
      have HWV := Lib.hid (show (limbsV (wideK a r 5)).length = 9 by rw [limbsV_len, wide_len])
      have HWO := Lib.hid (fun x hx => limbsV_one (wideK a r 5) x hx)
      have HWM := Lib.hid (HW.out 5)
      have HPD := Lib.hid (show prodN a r = foldK (wideK a r 5) 4 from rfl)
      generalize wideK a r 5 = wd at *
      have HLT := Lib.hid (R3.out.lt)
      have HWW := Lib.hid (HGR.out.size)
      clear hi hlt
      obtain ⟨W1, hW1⟩ : ∃ W, wr.alloc (.cells (noughts64 5).toArray 69) = W := ⟨_, rfl⟩
      have Q2 := Lib.hid (show Row W1 (G + 1 + 1) 69 (noughts64 5) by rw [← hW1]; exact R2.out.alloc _)
      have Q3 := Lib.hid (show Row W1 (G + 1 + 1 + 1) 90 (limbsV wd) by rw [← hW1]; exact R3.out.alloc _)
      have Q4 := Lib.hid (show Row W1 wr.heap.size 69 (noughts64 5) by rw [← hW1]; exact Row.new wr _ _)
      have HGQ := Lib.hid (show w.grownBy W1 none by rw [← hW1]; exact grown_alloc HGR.out _)
      simp only [noughts64, List.replicate] at hW1
      generalize hgq : wr.heap.size = g at *
      obtain ⟨w1, hrun, hr1, hg1⟩ := run_copy_gen (P := Try.prog) W1.drew 91 3 43 Try.underlying91 (by kernel_rfl) g 0 5 5 _ (limbsV wd) (Q3.out.drew.rds 9 9 HWV.out (by decide) (by decide)) HWO.out (noughts64 5) 69 Q4.out.drew (by decide)
      have he : splice (noughts64 5) 0 ((limbsV wd).take 5) = limbsV (foldK wd 0) := by
        have hl : ((limbsV wd).take 5).length = 5 := by rw [List.length_take, HWV.out]; rfl
        rw [splice_zero, hl]
        show (limbsV wd).take 5 ++ (noughts64 5).drop 5 = limbsV (wd.take 5)
        simp [limbsV, noughts64]
      rw [he] at hr1
      rw [HWV.out] at hrun
      have hrun' : (Builtin.copy_ #[91, 91] 3 #[.slice (some ⟨g, 0, none⟩) 5 5, .slice (some ⟨G + 1 + 1 + 1, 0, none⟩) 9 9]).run Try.prog W1.drew = .ok (.int .i64 5) w1 := hrun
      have P2 := Lib.hid (Q2.out.drew.grown hg1 (by have := HLT.out; simp; omega))
      have P3 := Lib.hid (Q3.out.drew.grown hg1 (by have := HLT.out; simp; omega))
      have P4 := Lib.hid hr1
      have HGP := Lib.hid (grown_own (grown_drew HGQ.out) hg1 HWW.out)
      clear he hrun hr1 hg1 R1 R2 R3 HGR
      go_wp2
      go_region
      clear hrun' hW1 Q2 Q3 Q4 HGQ hgq
      go_wp2
      go_loopw [40] (fun q W => ∃ k : Nat, k ≤ 4 ∧ q = .int .i64 k ∧ Row W (G + 1 + 1) 69 (noughts64 5) ∧ Row W (G + 1 + 1 + 1) 90 (limbsV wd) ∧ Row W g 69 (limbsV (foldK wd k)) ∧ w.grownBy W none) (fun q _ => 4 - (intOf q).toNat)
      case atStart => exact ⟨0, Nat.zero_le _, rfl, P2.out, P3.out, P4.out, HGP.out⟩
      case round =>
        clear P2 P3 P4 HGP
        obtain ⟨k, hk, rfl, r2, r3, r4, hgr⟩ := hrel
        have R2 := Lib.hid r2
        have R3 := Lib.hid r3
        have R4 := Lib.hid r4
        have HGR := Lib.hid hgr
        clear r2 hgr
        by_cases hlk : k < 4
        · have hc3 := r3.cell (limbsV_at wd (5 + k) (by rw [HWL.out]; omega))
          have hc4 := r4.cell (limbsV_at (foldK wd k) k (by rw [foldK_len wd HWL.out]; omega))
          have hf4 := r4.frozen k
          have hm3 := HWM.out (5 + k)
          have hm4 := (foldK_le wd _ HWM.out k).2 k (Nat.le_refl _)
          have HS := Lib.hid (show foldK wd (k + 1) = (foldK wd k).set k ((foldK wd k).getD k 0 + 5 * wd.getD (5 + k) 0) from rfl)
          generalize wd.getD (5 + k) 0 = y at *
          generalize (foldK wd k).getD k 0 = z at *
          have HKK := Lib.hid (And.intro hk hlk)
          have hdec : decide ((k : Int) < 4) = true := by simp; omega
          have had : (⟨G + 1 + 1 + 1, 5, none⟩ : Addr).add k = ⟨G + 1 + 1 + 1, 5 + k, none⟩ := by unfold Addr.add; split <;> simp_all
          clear r3 r4 hk
          go_wp2
          go_roundw
          case rel =>
            refine ⟨k + 1, by have := HKK.out.2; omega, by go_num, R2.out.other (by have := HLT.out; omega) _, R3.out.other (by have := HLT.out; omega) _, ?_, grown_own HGR.out (grown_set _ g k _) HWW.out⟩
            have := R4.out.set k (.int .u64 ((z + 5 * y : Nat) : Int))
            rw [limbsV_set, ← HS.out] at this
            exact this
          case measure => have := HKK.out.2; simp [intOf]; omega
        · have hk4 : k = 4 := by omega
          subst hk4
          rw [← HPD.out] at R4
          have HNV := Lib.hid (show (limbsV (prodN a r)).length = 5 by rw [limbsV_len, prod_len])
          have HL := Lib.hid (show (limbsV (foldN (prodN a r))).length = 5 by rw [limbsV_len, foldN_len])
          have HO := Lib.hid (fun x hx => limbsV_one (foldN (prodN a r)) x hx)
          clear r3 r4 hk hlk
          generalize limbsV (foldN (prodN a r)) = xs at *
          generalize limbsV (prodN a r) = ns at *
          go_wp2_with (refine wpList_load_row _ rfl _ 69 rfl g 69 ns _ rfl R4.out Try.underlying69 rfl (by rw [HNV.out]; kernel_rfl) ?_)
          refine (HFO.out _).mono ?_
          rintro e w2 ⟨rfl, hg2⟩
          have R2' := Lib.hid (R2.out.grown0 hg2)
          have HG2 := Lib.hid (HGR.out.trans hg2)
          clear hg2
          go_wp2_with (refine wpList_store_row _ rfl rfl _ _ 69 rfl (G + 1 + 1) 69 (noughts64 5) xs rfl rfl R2'.out (by rw [HL.out]; rfl) HO.out (by rw [HL.out]; kernel_rfl) ?_; intro w3 hr3 hg3)
          refine bodyPost_ret (v := .agg xs.toArray) ?_ rfl ⟨rfl, grown_own HG2.out hg3 (by have := HG.out; omega)⟩
          exact results_row Try.results41 (G + 1 + 1) 69 xs _ rfl hr3 Try.underlying69 rfl (by rw [HL.out]; kernel_rfl)
end Go.Proofs.Ytjcbdplbekecjaa
