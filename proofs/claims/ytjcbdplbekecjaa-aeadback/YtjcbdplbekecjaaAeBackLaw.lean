/-
  The law AeadBack, walked.
-/
import Derived.Test.YtjcbdplbekecjaaAeAwake
namespace Go.Proofs.Ytjcbdplbekecjaa
open Go.RowKit

set_option maxHeartbeats 8000000 in
set_option maxRecDepth 100000 in
theorem aeadBack_walk (key : List UInt8) (hk : key.length = 32) (nonce : List UInt8) (hn : nonce.length = 12) (A0 : Option Addr) (n0 c0 : Nat) (h : List UInt8) (A1 : Option Addr) (n1 c1 : Nat) (t : List UInt8) (w : World) (hr0 : Rd w (.slice A0 n0 c0) (bytesV h)) (hr1 : Rd w (.slice A1 n1 c1) (bytesV t)) :
    Calls Try.prog 5 #[.agg (bytesV key).toArray, .agg (bytesV nonce).toArray, .slice A0 n0 c0, .slice A1 n1 c1] w (Awake w) := by
  have hl0 : h.length = n0 := by have := hr0.len.1; rwa [bytesV_len] at this
  have hl1 : t.length = n1 := by have := hr1.len.1; rwa [bytesV_len] at this
  have HL0 := Lib.hid hl0
  have HL1 := Lib.hid hl1
  have HK := Lib.hid hk
  have HN := Lib.hid hn
  have HKL := Lib.hid (show (bytesV key).length = 32 by rw [bytesV_len, hk])
  have HNL := Lib.hid (show (bytesV nonce).length = 12 by rw [bytesV_len, hn])
  generalize hG : w.heap.size = G
  have HG := Lib.hid hG
  obtain ⟨W0, hW0⟩ : ∃ W, (w.alloc (.cells (bytesV key).toArray 22)).alloc (.cells (bytesV nonce).toArray 23) = W := ⟨_, rfl⟩
  have R0 := Lib.hid (show Row W0 G 22 (bytesV key) by rw [← hW0]; exact (Row.newAt w _ (bytesV key) hG).alloc _)
  have R1 := Lib.hid (show Row W0 (G + 1) 23 (bytesV nonce) by rw [← hW0]; exact Row.newAt _ _ (bytesV nonce) (by simp [hG]))
  have HGR := Lib.hid (show w.grownBy W0 none by rw [← hW0]; exact grown_alloc (grown_alloc (grown_refl _ _) _) _)
  have D0 := Lib.hid (hr0.grown0 HGR.out)
  have D1 := Lib.hid (hr1.grown0 HGR.out)
  have hmc := hr1.len.2.1
  have hcm := hr1.len.2.2
  unfold maxLen at hcm
  have hrh := hr0
  clear hk hn hr0 hr1 hl0 hl1
  by_cases hm0 : 500 < n0
  · have hdec : decide (500 < (n0 : Int)) = true := by simp; omega
    clear hm0
    go_enter Try.func5, Try.ntmps5
    go_wp2_with (go_at_call 8; refine (awake_any _).mono ?_; rintro e w5 ⟨rfl, hg5⟩)
    go_ret
    exact ⟨rfl, HGR.out.trans hg5⟩
  have hdec : decide (500 < (n0 : Int)) = false := by simp; omega
  by_cases hm1 : 500 < n1
  · have hdec1 : decide (500 < (n1 : Int)) = true := by simp; omega
    clear hm1
    go_enter Try.func5, Try.ntmps5
    go_wp2_with (go_at_call 8; refine (awake_any _).mono ?_; rintro e w5 ⟨rfl, hg5⟩)
    go_ret
    exact ⟨rfl, HGR.out.trans hg5⟩
  have hdec1 : decide (500 < (n1 : Int)) = false := by simp; omega
  have HM := Lib.hid (show n0 ≤ 500 ∧ n1 ≤ 500 by omega)
  clear hm0 hm1 hmc hcm
  go_enter Try.func5, Try.ntmps5
  go_wp2_with (at_builtin; refine wpList_append_bytes _ rfl _ _ rfl W0.heap.size _ 0 [] rfl (own_empty W0 _ (Nat.le_refl _)) _ t rfl (D1.out.grown0 (grown_alloc (grown_refl _ none) _)) ?_ ?_ ?_)
  · have := HM.out; have := HL1.out; omega
  · simp
  intro v1 w1 ho1 hg1 _
  have hgw : W0.grownBy w1 none := grown_new (grown_alloc (grown_refl W0 none) _) hg1 (fun x e => by cases e; exact Nat.le_refl _)
  have HV1 := Lib.hid (show Rd w1 v1 (bytesV t) from Rd.of_own ho1)
  have U0 := Lib.hid (R0.out.grown0 hgw)
  have U1 := Lib.hid (R1.out.grown0 hgw)
  have E0 := Lib.hid (D0.out.grown0 hgw)
  have E1 := Lib.hid (D1.out.grown0 hgw)
  have HGa := Lib.hid (HGR.out.trans hgw)
  clear ho1 hg1 hgw R0 R1 D0 D1 HGR hG hW0
  go_wp2_with (first
    | refine wpList_load_row _ rfl _ 22 rfl G 22 (bytesV key) _ rfl U0.out Try.underlying22 rfl (by rw [HKL.out]; kernel_rfl) ?_
    | refine wpList_load_row _ rfl _ 23 rfl (G + 1) 23 (bytesV nonce) _ rfl U1.out Try.underlying23 rfl (by rw [HNL.out]; kernel_rfl) ?_)
  refine (seal_own key HK.out nonce HN.out _ _ h t w1 E0.out HV1.out (by have := HM.out; have := HL0.out; omega) (by have := HM.out; have := HL1.out; omega)).mono ?_
  intro e w2 hO
  obtain ⟨A2, c2, rfl, ho2, hg2⟩ := hO.form
  have hsl := sealB_len key nonce h t
  rw [hsl, HL1.out] at ho2
  rw [hsl, HL1.out]
  have HSL := Lib.hid hsl
  have P0 := Lib.hid (U0.out.grown0 hg2)
  have P1 := Lib.hid (U1.out.grown0 hg2)
  have F0 := Lib.hid (E0.out.grown0 hg2)
  have F1 := Lib.hid (E1.out.grown0 hg2)
  have FV := Lib.hid (HV1.out.grown0 hg2)
  have HGb := Lib.hid (HGa.out.trans hg2)
  have HS := Lib.hid (Rd.of_own ho2)
  clear hO ho2 hg2 U0 U1 E0 E1 HV1 HGa hsl
  go_wp2_with (first
    | refine wpList_load_row _ rfl _ 22 rfl G 22 (bytesV key) _ rfl P0.out Try.underlying22 rfl (by rw [HKL.out]; kernel_rfl) ?_
    | refine wpList_load_row _ rfl _ 23 rfl (G + 1) 23 (bytesV nonce) _ rfl P1.out Try.underlying23 rfl (by rw [HNL.out]; kernel_rfl) ?_)
  refine (open_any key HK.out nonce HN.out _ _ h _ w2 F0.out HS.out (by have := HM.out; have := HL0.out; omega) (by rw [HSL.out]; have := HM.out; have := HL1.out; omega)).mono ?_
  intro e w3 hO
  obtain ⟨v3, rfl, hg3, hx3⟩ := hO.sealed
  obtain ⟨A3, c3, hv3⟩ := (IsX.rd hx3 (by have := HM.out; have := HL1.out; omega)).form
  have hs3 := run_str (hv3 ▸ IsX.rd hx3 (by have := HM.out; have := HL1.out; omega))
  have F1' := F1.out.grown0 hg3
  have FV' := FV.out.grown0 hg3
  obtain ⟨Av, cv, hvv⟩ := FV'.form
  have hs1 := run_str F1'
  have hsv := run_str (hvv ▸ FV')
  subst hvv hv3
  rw [bytesV_len, HL1.out] at hs3 hsv ⊢
  have HGc := Lib.hid (HGb.out.trans hg3)
  have HAW := Lib.hid (awake_any w3)
  have hn1 : n1 ≤ 500 := HM.out.2
  generalize t.toArray = ta at *
  clear hO hx3 hg3 F0 F1 FV F1' FV' HGb HS P0 P1
  go_wp2_with fail
  refine HAW.out.mono ?_
  rintro e w4 ⟨rfl, hg4⟩
  go_wp2
  go_ret
  exact ⟨rfl, HGc.out.trans hg4⟩
end Go.Proofs.Ytjcbdplbekecjaa
