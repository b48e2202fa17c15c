/-
  The law PackCuts, walked.
-/
import Derived.Test.YtibofgokdjbomaaPkAwake
import Derived.Test.YtibofgokdjbomaaAppEmpty
namespace Go.Proofs.Ytibofgokdjbomaa
set_option maxRecDepth 1000000
open Go.RowKit

set_option maxHeartbeats 8000000 in
theorem packCuts_walk (A : Option Addr) (n c : Nat) (b : List UInt8) (win cut : Int) (A3 : Option Addr) (n3 c3 : Nat) (more : List UInt8) (w : World) (hb : Rd w (.slice A n c) (bytesV b)) (hm : Rd w (.slice A3 n3 c3) (bytesV more)) :
    Calls Try.prog 7 #[.slice A n c, .int .i64 win, .int .i64 cut, .slice A3 n3 c3] w (Awake w) := by
  have hbn : b.length = n := by have := hb.len.1; rwa [bytesV_len] at this
  have hmn : more.length = n3 := by have := hm.len.1; rwa [bytesV_len] at this
  by_cases h1 : 300 < n
  · have hd1 : decide (300 < (n : Int)) = true := by simp; omega
    clear hb hbn hm hmn
    go_enter Try.func7, Try.ntmps7
    go_wp2_with (go_at_call 11; refine (awake_any _).mono ?_; rintro e w9 ⟨rfl, hg9⟩)
    go_ret
    exact ⟨rfl, hg9⟩
  have hd1 : decide (300 < (n : Int)) = false := by simp; omega
  by_cases h2 : win < 1
  · have hd2 : decide (win < 1) = true := by simpa using h2
    clear hb hbn h1 hm hmn
    go_enter Try.func7, Try.ntmps7
    go_wp2_with (go_at_call 11; refine (awake_any _).mono ?_; rintro e w9 ⟨rfl, hg9⟩)
    go_ret
    exact ⟨rfl, hg9⟩
  have hd2 : decide (win < 1) = false := by simpa using h2
  by_cases h3 : 32768 < win
  · have hd3 : decide (32768 < win) = true := by simpa using h3
    clear hb hbn h1 hm hmn
    go_enter Try.func7, Try.ntmps7
    go_wp2_with (go_at_call 11; refine (awake_any _).mono ?_; rintro e w9 ⟨rfl, hg9⟩)
    go_ret
    exact ⟨rfl, hg9⟩
  have hd3 : decide (32768 < win) = false := by simpa using h3
  by_cases h4 : n3 < 1
  · have hd4 : decide ((n3 : Int) < 1) = true := by rw [decide_eq_true_eq]; omega
    have hd4' : decide (n3 < 1) = true := by rw [decide_eq_true_eq]; omega
    clear hb hbn hm hmn h1 h2 h3
    go_enter Try.func7, Try.ntmps7
    go_wp2_with (go_at_call 11; refine (awake_any _).mono ?_; rintro e w9 ⟨rfl, hg9⟩)
    go_ret
    exact ⟨rfl, hg9⟩
  have hd4 : decide ((n3 : Int) < 1) = false := by rw [decide_eq_false_iff_not]; omega
  have hd4' : decide (n3 < 1) = false := by rw [decide_eq_false_iff_not]; omega
  by_cases h5 : 20 < n3
  · have hd5 : decide (20 < (n3 : Int)) = true := by rw [decide_eq_true_eq]; omega
    clear hb hbn hm hmn h1 h2 h3
    go_enter Try.func7, Try.ntmps7
    go_wp2_with (go_at_call 11; refine (awake_any _).mono ?_; rintro e w9 ⟨rfl, hg9⟩)
    go_ret
    exact ⟨rfl, hg9⟩
  have hd5 : decide (20 < (n3 : Int)) = false := by rw [decide_eq_false_iff_not]; omega
  have HPA := Lib.hid (pack_any _ b win w hb)
  rw [pack_in b win (by omega) (by omega)] at HPA
  have HPL := Lib.hid (pack_len b win (by omega) (by omega))
  have HCU := Lib.hid (fun k hk => unpack_cut b win (by omega) (by omega) k hk)
  have HMO := Lib.hid (unpack_more b win (by omega) (by omega) more (by intro e; rw [e] at hmn; simp at hmn; omega))
  have HM := Lib.hid hm
  generalize packM b win = PX at *
  have HN3 := Lib.hid (show n3 ≤ 20 by omega)
  have HB3 := Lib.hid (show PX.length ≤ 3000 by have := HPL.out.1; omega)
  obtain ⟨m, hm2⟩ : ∃ m, PX.length = m := ⟨_, rfl⟩
  clear hb hm h1 h2 h3 h4 h5
  by_cases hc0 : cut < 0
  · have hdc : decide (cut < 0) = true := by simpa using hc0
    clear HCU HMO
    go_enter Try.func7, Try.ntmps7
    go_wp2_with fail
    refine HPA.out.mono ?_
    rintro e w1 ⟨u1, rfl, hr1, hg1⟩
    have HG1 := Lib.hid hg1
    clear hr1 hg1 HPA
    go_wp2_with (go_at_call 11; refine (awake_any _).mono ?_; rintro e w9 ⟨rfl, hg9⟩)
    go_ret
    exact ⟨rfl, HG1.out.trans hg9⟩
  have hdc : decide (cut < 0) = false := by simpa using hc0
  obtain ⟨k, rfl⟩ : ∃ k : Nat, cut = k := ⟨cut.toNat, by omega⟩
  by_cases hck : m ≤ k
  · have hdk : decide ((m : Int) ≤ (k : Int)) = true := by simpa using hck
    have hdk2 : decide (m ≤ k) = true := by simpa using hck
    clear HCU HMO
    go_enter Try.func7, Try.ntmps7
    go_wp2_with fail
    refine HPA.out.mono ?_
    rintro e w1 ⟨u1, rfl, hr1, hg1⟩
    have HG1 := Lib.hid hg1
    obtain ⟨A1, c1, rfl⟩ := hr1.form
    simp only [bytesV_len] at hr1 ⊢
    rw [hm2]
    clear hr1 hg1 HPA
    go_wp2_with (go_at_call 11; refine (awake_any _).mono ?_; rintro e w9 ⟨rfl, hg9⟩)
    go_ret
    exact ⟨rfl, HG1.out.trans hg9⟩
  have hdk : decide ((m : Int) ≤ (k : Int)) = false := by simpa using hck
  have hdk2 : decide (m ≤ k) = false := by simpa using hck
  have HK := Lib.hid (show k < m by omega)
  obtain ⟨k1, k2⟩ := HCU.out k (by omega)
  have HUC := Lib.hid (fun v W (h : Rd W v (bytesV (PX.take k))) => unpack_any v (PX.take k) W h (by rw [List.length_take]; have := HB3.out; omega))
  have HUM := Lib.hid (fun v W (h : Rd W v (bytesV (PX ++ more))) => unpack_any v (PX ++ more) W h (by rw [List.length_append]; have := HB3.out; have := HN3.out; omega))
  rw [HMO.out] at HUM
  have HK2 := Lib.hid k2
  have hz : ((unpackM (PX.take k)).2 != 0) = true := by simpa using k1
  obtain ⟨z, hzz⟩ : ∃ z, unpackM (PX.take k) = z := ⟨_, rfl⟩
  rw [hzz] at HUC HK2 hz
  obtain ⟨z1, z2⟩ := z
  simp only at HK2 hz
  obtain rfl := HK2.out
  have HM2 := Lib.hid hm2
  have HMN := Lib.hid hmn
  clear k1 k2 hzz HCU HMO hc0 hck
  go_enter Try.func7, Try.ntmps7
  go_wp2_with fail
  refine HPA.out.mono ?_
  rintro e w1 ⟨u1, rfl, hr1, hg1⟩
  have H1 := Lib.hid (And.intro hr1 hg1)
  obtain ⟨A1, c1, rfl⟩ := hr1.form
  simp only [bytesV_len] at H1 ⊢
  rw [hm2] at H1 ⊢
  clear hr1 hg1 HPA
  go_wp2_with (refine wpList_takeB rfl _ _ rfl PX k (k : Int) H1.out.1 rfl rfl (by have := HK.out; have := HM2.out; omega) ?_; intro vd hvd)
  refine (HUC.out vd w1 hvd).mono ?_
  rintro e w2 ⟨u2, rfl, hr2, hg2⟩
  have H2 := Lib.hid (show Rd w2 (.slice A1 m c1) (bytesV PX) ∧ Rd w2 (.slice A3 n3 c3) (bytesV more) ∧ w.grownBy w2 none from ⟨H1.out.1.grown0 hg2, HM.out.grown0 (H1.out.2.trans hg2), H1.out.2.trans hg2⟩)
  obtain ⟨A2, c2, rfl⟩ := hr2.form
  simp only [bytesV_len] at hr2 ⊢
  rw [show ([] : List UInt8).length = 0 from rfl]
  clear hr2 hg2 hvd HUC H1 HM
  go_wp2_with (first
    | (at_builtin; refine wpList_append_bytes _ rfl _ _ rfl w2.heap.size _ 0 [] rfl (own_empty w2 w2.heap.size (Nat.le_refl _)) _ PX rfl (H2.out.1.grown0 (grown_alloc (grown_refl _ _) _)) (by have := HB3.out; omega) (by simp) ?_; intro v3 w3 ho3 hg3 hat3; have HG3 := Lib.hid (show w2.grownBy w3 none from grown_new (grown_alloc (grown_refl _ none) _) hg3 (fun k e => by cases e; exact Nat.le_refl _)); have HO3 := Lib.hid (show w3.ownsRow w2.heap.size 5 1 v3 m (bytesV PX) by rw [← HM2.out]; simpa using ho3); clear ho3 hg3 hat3)
    | (at_builtin; refine wpList_append_bytes _ rfl _ _ rfl w2.heap.size v3 m (bytesV PX) rfl HO3.out _ more rfl (H2.out.2.1.grown0 HG3.out) (by have := HN3.out; have := HB3.out; have := HMN.out; have := HM2.out; omega) HG3.out.size ?_; intro v4 w4 ho4 hg4 hat4))
  have HR4 := Lib.hid (show Rd w4 v4 (bytesV (PX ++ more)) by
    have h := Rd.of_own ho4
    rw [← bytesV_app] at h
    exact h)
  have HG4 := Lib.hid (show w.grownBy w4 none from H2.out.2.2.trans (grown_new HG3.out hg4 (fun k e => (HO3.out.lt k e).1)))
  clear ho4 hg4 hat4 HO3 HG3 H2
  go_wp2_with fail
  refine (HUM.out v4 w4 HR4.out).mono ?_
  rintro e w5 ⟨u5, rfl, hr5, hg5⟩
  have HG5 := Lib.hid (HG4.out.trans hg5)
  obtain ⟨A5, c5, rfl⟩ := hr5.form
  simp only [bytesV_len] at hr5 ⊢
  rw [show ([] : List UInt8).length = 0 from rfl]
  clear hr5 hg5
  go_wp2_with (go_at_call 11; refine (awake_any _).mono ?_; rintro e w9 ⟨rfl, hg9⟩)
  go_ret
  exact ⟨rfl, HG5.out.trans hg9⟩
end Go.Proofs.Ytibofgokdjbomaa
