/-
  aead.tagOf over this program.
-/
import Derived.Test.YtjcbdplbekecjaaAeTagged
import Derived.Test.YtjcbdplbekecjaaStrAt
import Derived.Test.YtjcbdplbekecjaaPolTag
import Derived.Test.YtjcbdplbekecjaaStepOps
namespace Go.Proofs.Ytjcbdplbekecjaa
open Go.RowKit

theorem otk_row (key nonce : List UInt8) : splice (noughts8 32) 0 ((bytesV (blok key 0#32 nonce)).take 32) = bytesV (otk key nonce) := by
  have hl : ((bytesV (blok key 0#32 nonce)).take 32).length = 32 := by rw [List.length_take, bytesV_len, blok_len]; rfl
  rw [splice_zero, hl]
  simp [bytesV, noughts8, List.map_take, otk]

set_option maxHeartbeats 4000000 in
set_option maxRecDepth 100000 in
theorem tagOf_any (key : List UInt8) (hk : key.length = 32) (nonce : List UInt8) (hn : nonce.length = 12) (v1 v2 : Value) (h x : List UInt8) (w : World) (hr1 : Rd w v1 (bytesV h)) (hr2 : Rd w v2 (bytesV x)) (hh : h.length ≤ 40000000000) (hx : x.length ≤ 40000000000) :
    Calls Try.prog 14 #[.agg (bytesV key).toArray, .agg (bytesV nonce).toArray, v1, v2] w (Val (.agg (bytesV (tagA key nonce h x)).toArray) w) := by
  generalize hG : w.heap.size = G
  have HG := Lib.hid hG
  have HKL := Lib.hid (show (bytesV key).length = 32 by rw [bytesV_len, hk])
  have HNL := Lib.hid (show (bytesV nonce).length = 12 by rw [bytesV_len, hn])
  have HBK := Lib.hid (fun w => block_any key hk 0#32 nonce hn w)
  obtain ⟨W0, hW0⟩ : ∃ W, ((w.alloc (.cells (bytesV key).toArray 22)).alloc (.cells (bytesV nonce).toArray 23)).alloc (.cells (noughts8 16).toArray 37) = W := ⟨_, rfl⟩
  have R0 := Lib.hid (show Row W0 G 22 (bytesV key) by rw [← hW0]; exact ((Row.newAt w _ (bytesV key) hG).alloc _).alloc _)
  have R1 := Lib.hid (show Row W0 (G + 1) 23 (bytesV nonce) by rw [← hW0]; exact (Row.newAt _ _ (bytesV nonce) (by simp [hG])).alloc _)
  have R2 := Lib.hid (show Row W0 (G + 1 + 1) 37 (noughts8 16) by rw [← hW0]; exact Row.newAt _ _ (noughts8 16) (by simp [hG]))
  have HGR := Lib.hid (show w.grownBy W0 none by rw [← hW0]; exact grown_alloc (grown_alloc (grown_alloc (grown_refl _ _) _) _) _)
  simp only [noughts8, List.replicate] at hW0
  have HR1 := Lib.hid hr1
  have HR2 := Lib.hid hr2
  have HH := Lib.hid (And.intro hh hx)
  have HOK := Lib.hid (otk_row key nonce)
  have HOL := Lib.hid (otk_len key nonce)
  have HTA := Lib.hid (show tagA key nonce h x = tagB (otk key nonce) (tagd h x) from rfl)
  have HBL := Lib.hid (show (bytesV (blok key 0#32 nonce)).length = 64 by rw [bytesV_len, blok_len])
  have HBO := Lib.hid (fun x hx => bytesV_one (blok key 0#32 nonce) x hx)
  clear hk hn hr1 hr2 hh hx
  go_enter Try.func14, Try.ntmps14
  go_wp2_with (first
    | refine wpList_load_row _ rfl _ 22 rfl G 22 (bytesV key) _ rfl R0.out Try.underlying22 rfl (by rw [HKL.out]; kernel_rfl) ?_
    | refine wpList_load_row _ rfl _ 23 rfl (G + 1) 23 (bytesV nonce) _ rfl R1.out Try.underlying23 rfl (by rw [HNL.out]; kernel_rfl) ?_)
  clear hG hW0
  refine (HBK.out _).mono ?_
  rintro e w1 ⟨rfl, hg1⟩
  have hGlt := R2.out.lt
  have hg1s := hg1.size
  have R2' := Lib.hid (R2.out.grown0 hg1)
  have HG1 := Lib.hid (HGR.out.trans hg1)
  clear R0 R1 R2 HGR HBK hg1 hGlt hg1s HKL HNL
  generalize hBV : bytesV (blok key 0#32 nonce) = BV at *
  clear hBV
  go_wp2_with (refine wpList_store_row _ rfl rfl _ _ 49 rfl w1.heap.size 49 (noughts8 64) BV rfl rfl (Row.new w1 49 (noughts8 64)) (by rw [HBL.out]; rfl) HBO.out (by rw [HBL.out]; kernel_rfl) ?_; intro w2 hr2 hg2)
  obtain ⟨W3, hW3⟩ : ∃ W, w2.alloc (.cells (noughts8 32).toArray 22) = W := ⟨_, rfl⟩
  have HSZ := Lib.hid (show G + 1 + 1 < w1.heap.size ∧ w1.heap.size < w2.heap.size ∧ w.heap.size ≤ w1.heap.size from ⟨R2'.out.lt, hr2.lt, HG1.out.size⟩)
  have HG2 := Lib.hid (show w.grownBy W3 none by
    rw [← hW3]
    exact grown_alloc (grown_own (grown_alloc HG1.out _) hg2 HSZ.out.2.2) _)
  have Q2 := Lib.hid (show Row W3 (G + 1 + 1) 37 (noughts8 16) by
    rw [← hW3]
    exact ((R2'.out.alloc _).grown hg2 (by have := HSZ.out; simp; omega)).alloc _)
  have Q3 := Lib.hid (show Row W3 w1.heap.size 49 BV by
    rw [← hW3]
    exact hr2.alloc _)
  have Q4 := Lib.hid (show Row W3 w2.heap.size 22 (noughts8 32) by
    rw [← hW3]
    exact Row.new w2 _ _)
  obtain ⟨w4, hrun, hr4, hg4⟩ := run_copy_gen (P := Try.prog) W3.drew 24 3 5 Try.underlying24 (by kernel_rfl) w2.heap.size 0 32 32 _ BV (Q3.out.drew.rds 64 64 HBL.out (by decide) (by decide)) HBO.out (noughts8 32) 22 Q4.out.drew (by decide)
  rw [HOK.out] at hr4
  rw [HBL.out] at hrun
  have hrun' : (Builtin.copy_ #[24, 24] 3 #[.slice (some ⟨w2.heap.size, 0, none⟩) 32 32, .slice (some ⟨w1.heap.size, 0, none⟩) 64 64]).run Try.prog W3.drew = .ok (.int .i64 32) w4 := hrun
  simp only [noughts8, List.replicate] at hW3
  rw [hW3]
  have S2 := Lib.hid (Q2.out.drew.grown hg4 (by have := HSZ.out; simp; omega))
  have S4 := Lib.hid hr4
  have HG4 := Lib.hid (grown_own (grown_drew HG2.out) hg4 (by have := HSZ.out; omega))
  clear hrun hr4 hg4 Q2 Q3 Q4 HG2 hr2 hg2 R2' HG1 hW3
  go_region
  clear hrun'
  have HOV := Lib.hid (show (bytesV (otk key nonce)).length = 32 by rw [bytesV_len, HOL.out])
  have HTD := Lib.hid (show (tagd h x).length ≤ 100000000000 by have := tagd_len h x; have := HH.out; omega)
  have H1 := Lib.hid (fun (W : World) (hW : w.grownBy W none) => Out.made (tagged_any v1 v2 h x W (HR1.out.grown0 hW) (HR2.out.grown0 hW) (by have := HH.out; omega) (by have := HH.out; omega)))
  have H2 := Lib.hid (fun (v : Value) (W : World) (hv : IsB (tagd h x) v W) => Val.made (tag_any (otk key nonce) HOL.out v (tagd h x) W hv HTD.out))
  have HL := Lib.hid (show (bytesV (tagA key nonce h x)).length = 16 by rw [bytesV_len, tagA_len])
  have HO := Lib.hid (fun y hy => bytesV_one (tagA key nonce h x) y hy)
  rw [← HTA.out] at H2
  clear HTA
  generalize tagA key nonce h x = ta at *
  generalize tagd h x = td at *
  generalize otk key nonce = ok at *
  generalize bytesV ta = tb at *
  clear HTD HOK
  go_wp2
  refine wp_region_walk3 5 [] dis_nil (by kernel_rfl) (by kernel_rfl) (by kernel_rfl) ?_
  simp only [List.take_succ_cons, List.take_zero, List.drop_succ_cons, List.drop_zero]
  refine Walk.val (G := Is (.agg (bytesV ok).toArray)) (stays_is _ _) rfl rfl (fun a w hm hd => ⟨wanted_plain rfl, _, ex_load_row rfl w2.heap.size 22 _ _ (by rw [hm.outer 10 (by kernel_rfl)]; rfl) (S4.out.grown0 hm.grow.none2) Try.underlying22 rfl (by rw [HOV.out]; kernel_rfl), rfl⟩) ?_
  refine Walk.val (G := Is v1) (stays_is _ _) rfl rfl (fun a w hm hd => ⟨wanted_plain rfl, _, ex_move rfl, by rw [hm.outer 2 (by kernel_rfl)]; rfl⟩) ?_
  refine Walk.val (G := Is v2) (stays_is _ _) rfl rfl (fun a w hm hd => ⟨wanted_plain rfl, _, ex_move rfl, by rw [hm.outer 3 (by kernel_rfl)]; rfl⟩) ?_
  refine Walk.call (G := IsB td) (stays_bytes _ _) rfl 26 rfl (fun a w hm ha hd => ⟨wanted_plain rfl, _, ex_call2 Try.func26 (by kernel_rfl) (by kernel_rfl) rfl, by rw [show a.eval (.tmp 18) = _ from hd.at_ 1 rfl rfl rfl rfl, show a.eval (.tmp 19) = _ from hd.at_ 2 rfl rfl rfl rfl]; exact H1.out w (HG4.out.trans hm.grow.none2)⟩) ?_
  refine Walk.call (G := Is (.agg tb.toArray)) (stays_is _ _) rfl 25 rfl (fun a w hm ha hd => ⟨wanted_plain rfl, _, ex_call2 Try.func25 (by kernel_rfl) (by kernel_rfl) rfl, by rw [show a.eval (.tmp 17) = _ from hd.at_ 0 rfl rfl rfl rfl]; exact H2.out _ w (hd.at_ 3 rfl rfl rfl rfl)⟩) ?_
  intro a9 V hm9 hall
  have f21 : a9.eval (.tmp 21) = .agg tb.toArray := hall 4 _ _ rfl rfl
  have f8 : a9.eval (.tmp 8) = .pointer (some ⟨G + 1 + 1, 0, none⟩) := by rw [hm9.outer 8 (by kernel_rfl)]; rfl
  have hg9 : w4.grownBy V none := GrownX.none2 hm9.grow
  have hdf : a9.defers = [] := hm9.defers
  clear hall hm9
  refine wpList_store_row _ rfl rfl _ _ 37 rfl (G + 1 + 1) 37 (noughts8 16) tb f8 f21 (S2.out.grown0 hg9) (by rw [HL.out]; rfl) HO.out (by rw [HL.out]; kernel_rfl) ?_
  intro w5 hr5 hg5
  obtain ⟨tm, df⟩ := a9
  simp only at hdf
  subst hdf
  go_wp2
  refine bodyPost_ret (v := .agg tb.toArray) ?_ rfl ⟨rfl, grown_own (HG4.out.trans hg9) hg5 (by have := HG.out; omega)⟩
  exact results_row Try.results14 (G + 1 + 1) 37 tb _ f8 hr5 Try.underlying37 rfl (by rw [HL.out]; kernel_rfl)
end Go.Proofs.Ytjcbdplbekecjaa
