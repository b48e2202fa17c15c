/-
  aead.Seal over this program.
-/
import Derived.Test.YtjcbdplbekecjaaAeTagOf
namespace Go.Proofs.Ytjcbdplbekecjaa
open Go.RowKit

/-- Xor from block 1 on. -/
theorem xor_one (key : List UInt8) (hk : key.length = 32) (nonce : List UInt8) (hn : nonce.length = 12) (v : Value) (b : List UInt8) (w : World) (hr : Rd w v (bytesV b)) (hb : b.length ≤ 100000000000) :
    Calls Try.prog 13 #[.agg (bytesV key).toArray, .int .u32 1, .agg (bytesV nonce).toArray, v] w (fun e w' => ∃ v, e = .returned v ∧ w.grownBy w' none ∧ IsX (xs key 1#32 nonce b) v w') :=
  xor_at key hk 1#32 nonce hn v b w hr hb

set_option maxHeartbeats 4000000 in
set_option maxRecDepth 100000 in
theorem seal_own (key : List UInt8) (hk : key.length = 32) (nonce : List UInt8) (hn : nonce.length = 12) (v1 v2 : Value) (h t : List UInt8) (w : World) (hr1 : Rd w v1 (bytesV h)) (hr2 : Rd w v2 (bytesV t)) (hh : h.length ≤ 40000000000) (ht : t.length ≤ 40000000000) :
    Calls Try.prog 9 #[.agg (bytesV key).toArray, .agg (bytesV nonce).toArray, v1, v2] w (OutO w (sealB key nonce h t)) := by
  generalize hG : w.heap.size = G
  have HG := Lib.hid hG
  have HK := Lib.hid hk
  have HN := Lib.hid hn
  have HKL := Lib.hid (show (bytesV key).length = 32 by rw [bytesV_len, hk])
  have HNL := Lib.hid (show (bytesV nonce).length = 12 by rw [bytesV_len, hn])
  obtain ⟨W0, hW0⟩ : ∃ W, (w.alloc (.cells (bytesV key).toArray 22)).alloc (.cells (bytesV nonce).toArray 23) = W := ⟨_, rfl⟩
  have R0 := Lib.hid (show Row W0 G 22 (bytesV key) by rw [← hW0]; exact (Row.newAt w _ (bytesV key) hG).alloc _)
  have R1 := Lib.hid (show Row W0 (G + 1) 23 (bytesV nonce) by rw [← hW0]; exact Row.newAt _ _ (bytesV nonce) (by simp [hG]))
  have HGR := Lib.hid (show w.grownBy W0 none by rw [← hW0]; exact grown_alloc (grown_alloc (grown_refl _ _) _) _)
  have HR1 := Lib.hid hr1
  have HX1 := Lib.hid (xor_one key hk nonce hn v2 t W0 (hr2.grown0 HGR.out) (by omega))
  have HXL := Lib.hid (show (xs key 1#32 nonce t).length ≤ 40000000000 by rw [xs_len]; exact ht)
  have HH := Lib.hid hh
  have HSB := Lib.hid (show sealB key nonce h t = [xs key 1#32 nonce t, tagA key nonce h (xs key 1#32 nonce t)].flatten by simp [sealB])
  generalize hX : xs key 1#32 nonce t = X at *
  clear hX hk hn hr1 hr2 hh ht
  go_enter Try.func9, Try.ntmps9
  go_wp2_with (first
    | refine wpList_load_row _ rfl _ 22 rfl G 22 (bytesV key) _ rfl R0.out Try.underlying22 rfl (by rw [HKL.out]; kernel_rfl) ?_
    | refine wpList_load_row _ rfl _ 23 rfl (G + 1) 23 (bytesV nonce) _ rfl R1.out Try.underlying23 rfl (by rw [HNL.out]; kernel_rfl) ?_)
  clear hG hW0
  refine HX1.out.mono ?_
  rintro e w1 ⟨vx, rfl, hg1, gx, rfl, hx1⟩
  have S0 := Lib.hid (R0.out.grown0 hg1)
  have S1 := Lib.hid (R1.out.grown0 hg1)
  have HG1 := Lib.hid (HGR.out.trans hg1)
  have HVX := Lib.hid (IsX.rd (l := X) ⟨gx, rfl, hx1⟩ (by have := HXL.out; omega))
  have HTG := Lib.hid (tagOf_any key HK.out nonce HN.out v1 _ h X w1 (HR1.out.grown0 HG1.out) HVX.out HH.out HXL.out)
  clear R0 R1 HGR HX1 hg1
  go_wp2_with (first
    | refine wpList_load_row _ rfl _ 22 rfl G 22 (bytesV key) _ rfl S0.out Try.underlying22 rfl (by rw [HKL.out]; kernel_rfl) ?_
    | refine wpList_load_row _ rfl _ 23 rfl (G + 1) 23 (bytesV nonce) _ rfl S1.out Try.underlying23 rfl (by rw [HNL.out]; kernel_rfl) ?_)
  refine HTG.out.mono ?_
  rintro e w2 ⟨rfl, hg2⟩
  have HL := Lib.hid (show (bytesV (tagA key nonce h X)).length = 16 by rw [bytesV_len, tagA_len])
  have HO := Lib.hid (fun y hy => bytesV_one (tagA key nonce h X) y hy)
  have HTL := Lib.hid (tagA_len key nonce h X)
  have HVX2 := Lib.hid (hx1.grown0 hg2)
  have HG2 := Lib.hid (HG1.out.trans hg2)
  generalize tagA key nonce h X = T at *
  clear HVX HTG hg2 S0 S1 HG1 hx1
  go_wp2_with (refine wpList_store_row _ rfl rfl _ _ 37 rfl w2.heap.size 37 (noughts8 16) (bytesV T) rfl rfl (Row.new w2 37 (noughts8 16)) (by rw [HL.out]; rfl) HO.out (by rw [HL.out]; kernel_rfl) ?_; intro w3 hr3 hg3)
  have HWW := Lib.hid HG2.out.size
  have HG3 := Lib.hid (grown_own (grown_alloc HG2.out _) hg3 HWW.out)
  have hgx := HVX2.out.lt
  have V3 := (HVX2.out.alloc _).grown hg3 (by simp; omega)
  generalize hO : Obj.cells #[Value.slice (some ⟨gx, 0, none⟩) X.length X.length, .slice (some ⟨w2.heap.size, 0, none⟩) 16 16] 24 = OB
  have hrow : Row (w3.alloc OB) w3.heap.size 24 [.slice (some ⟨gx, 0, none⟩) X.length X.length, .slice (some ⟨w2.heap.size, 0, none⟩) 16 16] := by rw [← hO]; exact Row.new w3 _ _
  have hcat := concat_own w3.heap.size _ [X, T] (w3.alloc OB) hrow rfl (rd_two (IsX.rd (l := X) ⟨gx, rfl, V3.alloc _⟩ (by have := HXL.out; omega)) ((hr3.alloc OB).rds 16 16 HL.out (Nat.le_refl _) (by decide))) (by have := HXL.out; have := HTL.out; simp; omega) (by simp)
  rw [← HSB.out] at hcat
  refine hcat.mono ?_
  rintro e w4 ⟨v4, rfl, ho4, hg4⟩
  have HF := Lib.hid (And.intro ho4 (And.intro (grown_alloc HG3.out OB) hg4))
  clear hcat hrow hO V3 hgx hr3 hg3 ho4 hg4
  go_wp2
  go_ret
  obtain ⟨ho4, hg3, hg4⟩ := HF.out
  exact ⟨_, rfl, own_lower ho4 hg3.size, hg3.trans hg4⟩
end Go.Proofs.Ytjcbdplbekecjaa
