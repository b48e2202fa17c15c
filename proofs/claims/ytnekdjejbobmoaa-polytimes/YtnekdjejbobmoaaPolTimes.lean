/-
  poly.Times over this program.
-/
import Derived.Test.YtnekdjejbobmoaaPolBytes
import Derived.Test.YtnekdjejbobmoaaReg2Base
namespace Go.Proofs.Ytnekdjejbobmoaa
open Go.RowKit

theorem GrownX.none2 {w w' : World} (h : GrownX [] w.drew w') : w.grownBy w' Option.none := ⟨h.os, h.tape, h.output, h.size, fun k hk _ => h.block k hk (by simp)⟩
theorem Val.made {v : Value} {f : FuncId} {args : Array Value} {w : World} (h : Calls Try.prog f args w (Val v w)) : Calls Try.prog f args w (fun e w' => ∃ u, e = .returned u ∧ w.grownBy w' none ∧ Is v u w') :=
  h.mono fun _ _ ⟨he, hg⟩ => ⟨_, he, hg, rfl⟩
theorem lt_digs (v : Nat) : Lt 67108864 (digs 67108864 5 v) := digs_lt 67108864 5 v (by decide)
theorem widen_low (v : Nat) : Low (digs 67108864 5 v) 8589934592 134217728 := by
  obtain ⟨h1, h2, h3⟩ := digs_low v
  exact ⟨h1, by omega, fun k hk => by have := h3 k hk; omega⟩
theorem valL_red (v : Nat) : valL (digs 67108864 5 (v % PP)) = v % PP := valL_digs _ (by
  have := Nat.mod_lt v (show 0 < PP by decide)
  unfold PP at *
  omega)

set_option maxHeartbeats 4000000 in
theorem times_any (a r : List UInt8) (ha : a.length = 16) (hr : r.length = 16) (w : World) :
    Calls Try.prog 14 #[.agg (bytesV a).toArray, .agg (bytesV r).toArray] w (Val (.agg (bytesV (timesB a r)).toArray) w) := by
  generalize hG : w.heap.size = G
  have HG := Lib.hid hG
  obtain ⟨W0, hW0⟩ : ∃ W, ((w.alloc (.cells (bytesV a).toArray 25)).alloc (.cells (bytesV r).toArray 25)).alloc (.cells (noughts8 17).toArray 31) = W := ⟨_, rfl⟩
  have R0 := Lib.hid (show Row W0 G 25 (bytesV a) by rw [← hW0]; exact ((Row.newAt w _ (bytesV a) hG).alloc _).alloc _)
  have R1 := Lib.hid (show Row W0 (G + 1) 25 (bytesV r) by rw [← hW0]; exact (Row.newAt _ _ (bytesV r) (by simp [hG])).alloc _)
  have R2 := Lib.hid (show Row W0 (G + 1 + 1) 31 (noughts8 17) by rw [← hW0]; exact Row.newAt _ _ (noughts8 17) (by simp [hG]))
  have HGR := Lib.hid (show w.grownBy W0 none by rw [← hW0]; exact grown_alloc (grown_alloc (grown_alloc (grown_refl _ _) _) _) _)
  simp only [noughts8, List.replicate] at hW0
  have HAL := Lib.hid (show (bytesV a).length = 16 by rw [bytesV_len, ha])
  have HRL := Lib.hid (show (bytesV r).length = 16 by rw [bytesV_len, hr])
  have hA := widen_low (le a)
  have hF := digs_fac (le (clampB r)) (clamp_lt r)
  have hm := mulmod_val _ _ hA hF
  have hlow := mulmod_low _ _ hA hF
  rw [valL_digs _ (by have := le_lt a; rw [ha] at this; omega), valL_digs _ (by have := clamp_lt r; omega)] at hm
  have H1 := Lib.hid (fun w => Val.made (widened_any a ha w))
  have H2 := Lib.hid (fun w => Val.made (numberOf_any (a ++ [0]) (by rw [List.length_append, ha]; rfl) w))
  rw [le_wide] at H2
  have H3 := Lib.hid (fun w => Val.made (factor_any r hr w))
  have H4 := Lib.hid (fun w => Val.made (product_any _ _ hA hF w))
  have H5 := Lib.hid (fun w => Val.made (reduced_any _ hlow w))
  rw [hm] at H5
  have H6 := Lib.hid (fun w => Val.made (bytesOf_any _ (digs_len 67108864 5 (le a * le (clampB r) % PP)) (lt_digs _) w))
  rw [valL_red, show leB 17 (le a * le (clampB r) % PP) = timesB a r from rfl] at H6
  have HL := Lib.hid (show (bytesV (timesB a r)).length = 17 by rw [bytesV_len, timesB_len])
  have HO := Lib.hid (fun x hx => bytesV_one (timesB a r) x hx)
  generalize bytesV (timesB a r) = xs at *
  clear ha hr hA hF hm hlow
  go_enter Try.func14, Try.ntmps14
  go_wp2
  clear hG hW0
  refine wp_region_walk3 8 [] dis_nil (by kernel_rfl) (by kernel_rfl) (by kernel_rfl) ?_
  simp only [List.take_succ_cons, List.take_zero, List.drop_succ_cons, List.drop_zero]
  refine Walk.val (G := Is (.agg (bytesV a).toArray)) (stays_is _ _) rfl rfl (fun a w hm hd => ⟨wanted_plain rfl, _, ex_load_row rfl G 25 _ _ (by rw [hm.outer 2 (by kernel_rfl)]; rfl) (R0.out.grown0 hm.grow.none2) Try.underlying25 rfl (by rw [HAL.out]; kernel_rfl), rfl⟩) ?_
  refine Walk.call (G := Is _) (stays_is _ _) rfl 26 rfl (fun a w hm ha hd => ⟨wanted_plain rfl, _, ex_call1 Try.func26 (by kernel_rfl) (by kernel_rfl) rfl, by rw [show a.eval (.tmp 5) = _ from hd.at_ 0 rfl rfl rfl rfl]; exact H1.out w⟩) ?_
  refine Walk.call (G := Is _) (stays_is _ _) rfl 20 rfl (fun a w hm ha hd => ⟨wanted_plain rfl, _, ex_call1 Try.func20 (by kernel_rfl) (by kernel_rfl) rfl, by rw [show a.eval (.tmp 6) = _ from hd.at_ 1 rfl rfl rfl rfl]; exact H2.out w⟩) ?_
  refine Walk.val (G := Is (.agg (bytesV r).toArray)) (stays_is _ _) rfl rfl (fun a w hm hd => ⟨wanted_plain rfl, _, ex_load_row rfl (G + 1) 25 _ _ (by rw [hm.outer 3 (by kernel_rfl)]; rfl) (R1.out.grown0 hm.grow.none2) Try.underlying25 rfl (by rw [HRL.out]; kernel_rfl), rfl⟩) ?_
  refine Walk.call (G := Is _) (stays_is _ _) rfl 17 rfl (fun a w hm ha hd => ⟨wanted_plain rfl, _, ex_call1 Try.func17 (by kernel_rfl) (by kernel_rfl) rfl, by rw [show a.eval (.tmp 8) = _ from hd.at_ 3 rfl rfl rfl rfl]; exact H3.out w⟩) ?_
  refine Walk.call (G := Is _) (stays_is _ _) rfl 18 rfl (fun a w hm ha hd => ⟨wanted_plain rfl, _, ex_call2 Try.func18 (by kernel_rfl) (by kernel_rfl) rfl, by rw [show a.eval (.tmp 7) = _ from hd.at_ 2 rfl rfl rfl rfl, show a.eval (.tmp 9) = _ from hd.at_ 4 rfl rfl rfl rfl]; exact H4.out w⟩) ?_
  refine Walk.call (G := Is _) (stays_is _ _) rfl 23 rfl (fun a w hm ha hd => ⟨wanted_plain rfl, _, ex_call1 Try.func23 (by kernel_rfl) (by kernel_rfl) rfl, by rw [show a.eval (.tmp 10) = _ from hd.at_ 5 rfl rfl rfl rfl]; exact H5.out w⟩) ?_
  refine Walk.call (G := Is _) (stays_is _ _) rfl 22 rfl (fun a w hm ha hd => ⟨wanted_plain rfl, _, ex_call1 Try.func22 (by kernel_rfl) (by kernel_rfl) rfl, by rw [show a.eval (.tmp 11) = _ from hd.at_ 6 rfl rfl rfl rfl]; exact H6.out w⟩) ?_
  intro a9 V hm9 hall
  have f12 : a9.eval (.tmp 12) = .agg xs.toArray := hall 7 _ _ rfl rfl
  have f4 : a9.eval (.tmp 4) = .pointer (some ⟨G + 1 + 1, 0, none⟩) := by rw [hm9.outer 4 (by kernel_rfl)]; rfl
  have hg9 : W0.grownBy V none := GrownX.none2 hm9.grow
  have hdf : a9.defers = [] := hm9.defers
  clear hall hm9
  refine wpList_store_row _ rfl rfl _ _ 31 rfl (G + 1 + 1) 31 (noughts8 17) xs f4 f12 (R2.out.grown0 hg9) (by rw [HL.out]; rfl) HO.out (by rw [HL.out]; kernel_rfl) ?_
  intro w4 hr4 hg4
  obtain ⟨tm, df⟩ := a9
  simp only at hdf
  subst hdf
  go_wp2
  refine bodyPost_ret (v := .agg xs.toArray) ?_ rfl ⟨rfl, grown_own (HGR.out.trans hg9) hg4 (by have := HG.out; omega)⟩
  exact results_row Try.results14 (G + 1 + 1) 31 xs _ f4 hr4 Try.underlying31 rfl (by rw [HL.out]; kernel_rfl)
end Go.Proofs.Ytnekdjejbobmoaa
