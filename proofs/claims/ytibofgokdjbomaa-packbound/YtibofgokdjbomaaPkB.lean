/-
  Chances within a greater block: what learning leaves.
-/
import Derived.Test.YtibofgokdjbomaaMCodW
namespace Go.Proofs.Ytibofgokdjbomaa
set_option maxRecDepth 1000000
open Go.RowKit

/-- Chances, and what stands behind them in their block. -/
def chR (R : List Value) (l : List Nat) : List Value := chV l ++ R
theorem chR_at (R : List Value) (l : List Nat) (j : Nat) (h : j < l.length) : (chR R l)[j]? = some (.int .i16 ((l.getD j 0 : Nat) - 1024 : Int)) := by
  unfold chR
  rw [List.getElem?_append_left (by rw [chV_len]; exact h)]
  exact chV_at l j h
theorem chR_lt (R : List Value) (l : List Nat) (j : Nat) (h : j < l.length) : j < (chR R l).length := by
  unfold chR
  rw [List.length_append, chV_len]
  omega
theorem chR_set (R : List Value) (l : List Nat) (j c : Nat) (h : j < l.length) : (chR R l).set j (.int .i16 ((c : Int) - 1024)) = chR R (l.set j c) := by
  unfold chR
  rw [List.set_append_left _ _ (by rw [chV_len]; exact h), chV_set]
/-- What learning leaves. -/
def LOutR (R : List Value) (g j : Nat) (t : TypeId) (l : List Nat) (b : Bool) (w : World) (e : Ending) (w' : World) : Prop := e = .returned (.tuple #[]) ∧ Row w' g t (chR R (l.set j (saw (l.getD j 0) b))) ∧ w.grownBy w' (some g)
set_option maxHeartbeats 4000000 in
theorem learn_in (R : List Value) (g j : Nat) (t : TypeId) (l : List Nat) (p : Int) (w : World) (hr : Row w g t (chR R l)) (hj : j < l.length) (hl : Okl l) :
    Calls Try.prog 58 #[.pointer (some ⟨g, j, none⟩), .int .i64 p] w (LOutR R g j t l (decide (p ≠ 0)) w) := by
  have hk := hl.at_ hj
  have HC := Lib.hid (chR_at R l j hj)
  have HJ := Lib.hid (chR_lt R l j hj)
  have HJ0 := Lib.hid hj
  have HR := Lib.hid hr
  have HLS := Lib.hid (show ∀ x, l.set j x = l.set j x from fun _ => rfl)
  unfold LOutR
  generalize l.getD j 0 = c at *
  obtain ⟨hk1, hk2⟩ := hk
  have HO := Lib.hid (fun w => of_any c (by omega) w)
  obtain ⟨q, hq⟩ : ∃ q : Int, q = (c : Int) - 1024 := ⟨_, rfl⟩
  rw [← hq] at HC HO
  have HQ := Lib.hid hq
  have HK := Lib.hid (And.intro hk1 hk2)
  clear hq hr hj hl HLS
  by_cases h0 : p = 0
  · subst h0
    obtain ⟨d, hd⟩ : ∃ d, d = (2048 - c) / 32 := ⟨_, rfl⟩
    obtain ⟨r, hr⟩ : ∃ r : Int, r = q + d := ⟨_, rfl⟩
    have HD := Lib.hid (show (2048 - (c : Int)) / 32 = (d : Int) ∧ 0 ≤ 2048 - (c : Int) ∧ 2048 - (c : Int) ≤ 4096 by omega)
    have HD2 := Lib.hid (show d ≤ 100 by omega)
    have HRR := Lib.hid (show q + (d : Int) = r ∧ -2048 ≤ r ∧ r ≤ 2048 by have := HQ.out; omega)
    have HSAW := Lib.hid (show saw c (decide ((0 : Int) ≠ 0)) = c + d by rw [hd]; rfl)
    have HRV := Lib.hid (show r = (((c + d : Nat) : Int)) - 1024 by have := HQ.out; omega)
    clear hd hr hk1 hk2
    go_enter Try.func58, Try.ntmps58
    go_wp2
    refine wp_region_walk3 14 [] dis_nil (by kernel_rfl) (by kernel_rfl) (by kernel_rfl) ?_
    simp only [List.take_succ_cons, List.take_zero, List.drop_succ_cons, List.drop_zero]
    refine Walk.val (G := Is (.pointer (some ⟨g, j, none⟩))) (stays_is _ _) rfl rfl (fun a w hm hd => ⟨wanted_plain rfl, st_move rfl (by rw [hm.outer 0 (by kernel_rfl)]; rfl)⟩) ?_
    refine Walk.val (G := Is (.pointer (some ⟨g, j, none⟩))) (stays_is _ _) rfl rfl (fun a w hm hd => ⟨wanted_plain rfl, st_nil rfl (hd.at_ 0 rfl rfl rfl rfl)⟩) ?_
    refine Walk.val (G := Is (.pointer (some ⟨g, j, none⟩))) (stays_is _ _) rfl rfl (fun a w hm hd => ⟨wanted_plain rfl, st_fieldC rfl (hd.at_ 1 rfl rfl rfl rfl)⟩) ?_
    refine Walk.val (G := Is (.int .i16 q)) (stays_is _ _) rfl rfl (fun a w hm hd => ⟨wanted_plain rfl, st_cell rfl (fun _ => by kernel_rfl) (hd.at_ 2 rfl rfl rfl rfl) ((HR.out.grown0 (GrownX.none2 hm.grow)).cell HC.out)⟩) ?_
    refine Walk.val (G := Is (.pointer (some ⟨g, j, none⟩))) (stays_is _ _) rfl rfl (fun a w hm hd => ⟨wanted_plain rfl, st_move rfl (by rw [hm.outer 0 (by kernel_rfl)]; rfl)⟩) ?_
    refine Walk.val (G := Is (.pointer (some ⟨g, j, none⟩))) (stays_is _ _) rfl rfl (fun a w hm hd => ⟨wanted_plain rfl, st_nil rfl (hd.at_ 4 rfl rfl rfl rfl)⟩) ?_
    refine Walk.val (G := Is (.agg #[.int .i16 q])) (stays_is _ _) rfl rfl (fun a w hm hd => ⟨wanted_plain rfl, ⟨_, ex_loadC rfl g j t _ q (hd.at_ 5 rfl rfl rfl rfl) (HR.out.grown0 (GrownX.none2 hm.grow)) HC.out, rfl⟩⟩) ?_
    refine Walk.call (G := Is (.int .i64 (c : Int))) (stays_is _ _) rfl 31 rfl (fun a w hm ha hd => ⟨wanted_plain rfl, _, ex_call1 Try.func31 (by kernel_rfl) (by kernel_rfl) rfl, by rw [show a.eval (.tmp 12) = _ from (hd.at_ 6 rfl rfl rfl rfl)]; exact Val.made (HO.out w)⟩) ?_
    refine Walk.val (G := Is (.int .i64 (2048 - c : Int))) (stays_is _ _) rfl rfl (fun a w hm hd => ⟨wanted_plain rfl, st_subi rfl rfl (hd.at_ 7 rfl rfl rfl rfl) rfl (by have := HK.out; omega)⟩) ?_
    refine Walk.val (G := Is (.int .i64 (d : Int))) (stays_is _ _) rfl rfl (fun a w hm hd => ⟨wanted_plain rfl, st_quo32 rfl (hd.at_ 8 rfl rfl rfl rfl) HD.out⟩) ?_
    refine Walk.val (G := Is (.int .i16 (d : Int))) (stays_is _ _) rfl rfl (fun a w hm hd => ⟨wanted_plain rfl, st_conv16 rfl (hd.at_ 9 rfl rfl rfl rfl) HD2.out⟩) ?_
    refine Walk.val (G := Is (.int .i16 r)) (stays_is _ _) rfl rfl (fun a w hm hd => ⟨wanted_plain rfl, st_add16 rfl (hd.at_ 3 rfl rfl rfl rfl) (hd.at_ 10 rfl rfl rfl rfl) HRR.out⟩) ?_
    refine Walk.val (G := Is (.pointer (some ⟨g, j, none⟩))) (stays_is _ _) rfl rfl (fun a w hm hd => ⟨wanted_plain rfl, st_nil rfl (hd.at_ 0 rfl rfl rfl rfl)⟩) ?_
    refine Walk.val (G := Is (.pointer (some ⟨g, j, none⟩))) (stays_is _ _) rfl rfl (fun a w hm hd => ⟨wanted_plain rfl, st_fieldC rfl (hd.at_ 12 rfl rfl rfl rfl)⟩) ?_
    intro a9 V9 hm9 hall
    have f6 : Is (.pointer (some ⟨g, j, none⟩)) (a9.eval (.tmp 6)) V9 := hall 0 _ _ rfl rfl
    have f7 : Is (.pointer (some ⟨g, j, none⟩)) (a9.eval (.tmp 7)) V9 := hall 1 _ _ rfl rfl
    have f8 : Is (.pointer (some ⟨g, j, none⟩)) (a9.eval (.tmp 8)) V9 := hall 2 _ _ rfl rfl
    have f9 : Is (.int .i16 q) (a9.eval (.tmp 9)) V9 := hall 3 _ _ rfl rfl
    have f10 : Is (.pointer (some ⟨g, j, none⟩)) (a9.eval (.tmp 10)) V9 := hall 4 _ _ rfl rfl
    have f11 : Is (.pointer (some ⟨g, j, none⟩)) (a9.eval (.tmp 11)) V9 := hall 5 _ _ rfl rfl
    have f12 : Is (.agg #[.int .i16 q]) (a9.eval (.tmp 12)) V9 := hall 6 _ _ rfl rfl
    have f13 : Is (.int .i64 (c : Int)) (a9.eval (.tmp 13)) V9 := hall 7 _ _ rfl rfl
    have f14 : Is (.int .i64 (2048 - c : Int)) (a9.eval (.tmp 14)) V9 := hall 8 _ _ rfl rfl
    have f15 : Is (.int .i64 (d : Int)) (a9.eval (.tmp 15)) V9 := hall 9 _ _ rfl rfl
    have f16 : Is (.int .i16 (d : Int)) (a9.eval (.tmp 16)) V9 := hall 10 _ _ rfl rfl
    have f17 : Is (.int .i16 r) (a9.eval (.tmp 17)) V9 := hall 11 _ _ rfl rfl
    have f18 : Is (.pointer (some ⟨g, j, none⟩)) (a9.eval (.tmp 18)) V9 := hall 12 _ _ rfl rfl
    have f19 : Is (.pointer (some ⟨g, j, none⟩)) (a9.eval (.tmp 19)) V9 := hall 13 _ _ rfl rfl
    have hfr := hm9.frame
    simp only [List.take_succ_cons, List.take_zero, List.filterMap_cons, List.filterMap_nil, List.foldl_cons, List.foldl_nil] at hfr
    have hgV9 := GrownX.none2 hm9.grow
    have f6 : a9.eval (.tmp 6) = _ := f6
    rw [f6] at hfr
    have f7 : a9.eval (.tmp 7) = _ := f7
    rw [f7] at hfr
    have f8 : a9.eval (.tmp 8) = _ := f8
    rw [f8] at hfr
    have f9 : a9.eval (.tmp 9) = _ := f9
    rw [f9] at hfr
    have f10 : a9.eval (.tmp 10) = _ := f10
    rw [f10] at hfr
    have f11 : a9.eval (.tmp 11) = _ := f11
    rw [f11] at hfr
    have f12 : a9.eval (.tmp 12) = _ := f12
    rw [f12] at hfr
    have f13 : a9.eval (.tmp 13) = _ := f13
    rw [f13] at hfr
    have f14 : a9.eval (.tmp 14) = _ := f14
    rw [f14] at hfr
    have f15 : a9.eval (.tmp 15) = _ := f15
    rw [f15] at hfr
    have f16 : a9.eval (.tmp 16) = _ := f16
    rw [f16] at hfr
    have f17 : a9.eval (.tmp 17) = _ := f17
    rw [f17] at hfr
    have f18 : a9.eval (.tmp 18) = _ := f18
    rw [f18] at hfr
    have f19 : a9.eval (.tmp 19) = _ := f19
    rw [f19] at hfr
    clear hall hm9
    have R9 := HR.out.grown0 hgV9
    refine wpList_storeC rfl rfl _ _ rfl g j t _ r f19 f17 R9 HJ.out ?_
    have R3 := R9.set j (.int .i16 r)
    have G3 := grown_trans2 (grown_none hgV9 (some g)) (grown_set V9 g j (.int .i16 r))
    generalize V9.setCell ⟨g, j, none⟩ (.int .i16 r) = W3 at *
    have HE := Lib.hid (And.intro R3 G3)
    clear f6
    clear f7
    clear f8
    clear f9
    clear f10
    clear f11
    clear f12
    clear f13
    clear f14
    clear f15
    clear f16
    clear f17
    clear f18
    clear f19
    clear R9 R3 G3 hgV9
    unfold wpList
    rw [hfr]
    clear hfr
    go_simp
    go_wp2
    refine bodyPost_end (results_none rfl _ _ _) rfl ?_
    refine ⟨rfl, ?_, HE.out.2⟩
    have h3 := HE.out.1
    rw [HRV.out, chR_set _ _ _ _ HJ0.out] at h3
    rw [HSAW.out]
    exact h3
  · have hq0 : (p == 0) = false := by simpa using h0
    have hdq : decide (p ≠ 0) = true := by simpa using h0
    rw [hdq]
    obtain ⟨d, hd⟩ : ∃ d, d = c / 32 := ⟨_, rfl⟩
    obtain ⟨r, hr⟩ : ∃ r : Int, r = q - d := ⟨_, rfl⟩
    have HD := Lib.hid (show (c : Int) / 32 = (d : Int) ∧ 0 ≤ (c : Int) ∧ (c : Int) ≤ 4096 by omega)
    have HD2 := Lib.hid (show d ≤ 100 by omega)
    have HRR := Lib.hid (show q - (d : Int) = r ∧ -2048 ≤ r ∧ r ≤ 2048 by have := HQ.out; omega)
    have HSAW := Lib.hid (show saw c true = c - d by rw [hd]; rfl)
    have HRV := Lib.hid (show r = (((c - d : Nat) : Int)) - 1024 by have := HQ.out; omega)
    clear hd hr hk1 hk2 h0 hdq
    go_enter Try.func58, Try.ntmps58
    go_wp2
    refine wp_region_walk3 13 [] dis_nil (by kernel_rfl) (by kernel_rfl) (by kernel_rfl) ?_
    simp only [List.take_succ_cons, List.take_zero, List.drop_succ_cons, List.drop_zero]
    refine Walk.val (G := Is (.pointer (some ⟨g, j, none⟩))) (stays_is _ _) rfl rfl (fun a w hm hd => ⟨wanted_plain rfl, st_move rfl (by rw [hm.outer 0 (by kernel_rfl)]; rfl)⟩) ?_
    refine Walk.val (G := Is (.pointer (some ⟨g, j, none⟩))) (stays_is _ _) rfl rfl (fun a w hm hd => ⟨wanted_plain rfl, st_nil rfl (hd.at_ 0 rfl rfl rfl rfl)⟩) ?_
    refine Walk.val (G := Is (.pointer (some ⟨g, j, none⟩))) (stays_is _ _) rfl rfl (fun a w hm hd => ⟨wanted_plain rfl, st_fieldC rfl (hd.at_ 1 rfl rfl rfl rfl)⟩) ?_
    refine Walk.val (G := Is (.int .i16 q)) (stays_is _ _) rfl rfl (fun a w hm hd => ⟨wanted_plain rfl, st_cell rfl (fun _ => by kernel_rfl) (hd.at_ 2 rfl rfl rfl rfl) ((HR.out.grown0 (GrownX.none2 hm.grow)).cell HC.out)⟩) ?_
    refine Walk.val (G := Is (.pointer (some ⟨g, j, none⟩))) (stays_is _ _) rfl rfl (fun a w hm hd => ⟨wanted_plain rfl, st_move rfl (by rw [hm.outer 0 (by kernel_rfl)]; rfl)⟩) ?_
    refine Walk.val (G := Is (.pointer (some ⟨g, j, none⟩))) (stays_is _ _) rfl rfl (fun a w hm hd => ⟨wanted_plain rfl, st_nil rfl (hd.at_ 4 rfl rfl rfl rfl)⟩) ?_
    refine Walk.val (G := Is (.agg #[.int .i16 q])) (stays_is _ _) rfl rfl (fun a w hm hd => ⟨wanted_plain rfl, ⟨_, ex_loadC rfl g j t _ q (hd.at_ 5 rfl rfl rfl rfl) (HR.out.grown0 (GrownX.none2 hm.grow)) HC.out, rfl⟩⟩) ?_
    refine Walk.call (G := Is (.int .i64 (c : Int))) (stays_is _ _) rfl 31 rfl (fun a w hm ha hd => ⟨wanted_plain rfl, _, ex_call1 Try.func31 (by kernel_rfl) (by kernel_rfl) rfl, by rw [show a.eval (.tmp 26) = _ from (hd.at_ 6 rfl rfl rfl rfl)]; exact Val.made (HO.out w)⟩) ?_
    refine Walk.val (G := Is (.int .i64 (d : Int))) (stays_is _ _) rfl rfl (fun a w hm hd => ⟨wanted_plain rfl, st_quo32 rfl (hd.at_ 7 rfl rfl rfl rfl) HD.out⟩) ?_
    refine Walk.val (G := Is (.int .i16 (d : Int))) (stays_is _ _) rfl rfl (fun a w hm hd => ⟨wanted_plain rfl, st_conv16 rfl (hd.at_ 8 rfl rfl rfl rfl) HD2.out⟩) ?_
    refine Walk.val (G := Is (.int .i16 r)) (stays_is _ _) rfl rfl (fun a w hm hd => ⟨wanted_plain rfl, st_sub16 rfl (hd.at_ 3 rfl rfl rfl rfl) (hd.at_ 9 rfl rfl rfl rfl) HRR.out⟩) ?_
    refine Walk.val (G := Is (.pointer (some ⟨g, j, none⟩))) (stays_is _ _) rfl rfl (fun a w hm hd => ⟨wanted_plain rfl, st_nil rfl (hd.at_ 0 rfl rfl rfl rfl)⟩) ?_
    refine Walk.val (G := Is (.pointer (some ⟨g, j, none⟩))) (stays_is _ _) rfl rfl (fun a w hm hd => ⟨wanted_plain rfl, st_fieldC rfl (hd.at_ 11 rfl rfl rfl rfl)⟩) ?_
    intro a9 V9 hm9 hall
    have f20 : Is (.pointer (some ⟨g, j, none⟩)) (a9.eval (.tmp 20)) V9 := hall 0 _ _ rfl rfl
    have f21 : Is (.pointer (some ⟨g, j, none⟩)) (a9.eval (.tmp 21)) V9 := hall 1 _ _ rfl rfl
    have f22 : Is (.pointer (some ⟨g, j, none⟩)) (a9.eval (.tmp 22)) V9 := hall 2 _ _ rfl rfl
    have f23 : Is (.int .i16 q) (a9.eval (.tmp 23)) V9 := hall 3 _ _ rfl rfl
    have f24 : Is (.pointer (some ⟨g, j, none⟩)) (a9.eval (.tmp 24)) V9 := hall 4 _ _ rfl rfl
    have f25 : Is (.pointer (some ⟨g, j, none⟩)) (a9.eval (.tmp 25)) V9 := hall 5 _ _ rfl rfl
    have f26 : Is (.agg #[.int .i16 q]) (a9.eval (.tmp 26)) V9 := hall 6 _ _ rfl rfl
    have f27 : Is (.int .i64 (c : Int)) (a9.eval (.tmp 27)) V9 := hall 7 _ _ rfl rfl
    have f28 : Is (.int .i64 (d : Int)) (a9.eval (.tmp 28)) V9 := hall 8 _ _ rfl rfl
    have f29 : Is (.int .i16 (d : Int)) (a9.eval (.tmp 29)) V9 := hall 9 _ _ rfl rfl
    have f30 : Is (.int .i16 r) (a9.eval (.tmp 30)) V9 := hall 10 _ _ rfl rfl
    have f31 : Is (.pointer (some ⟨g, j, none⟩)) (a9.eval (.tmp 31)) V9 := hall 11 _ _ rfl rfl
    have f32 : Is (.pointer (some ⟨g, j, none⟩)) (a9.eval (.tmp 32)) V9 := hall 12 _ _ rfl rfl
    have hfr := hm9.frame
    simp only [List.take_succ_cons, List.take_zero, List.filterMap_cons, List.filterMap_nil, List.foldl_cons, List.foldl_nil] at hfr
    have hgV9 := GrownX.none2 hm9.grow
    have f20 : a9.eval (.tmp 20) = _ := f20
    rw [f20] at hfr
    have f21 : a9.eval (.tmp 21) = _ := f21
    rw [f21] at hfr
    have f22 : a9.eval (.tmp 22) = _ := f22
    rw [f22] at hfr
    have f23 : a9.eval (.tmp 23) = _ := f23
    rw [f23] at hfr
    have f24 : a9.eval (.tmp 24) = _ := f24
    rw [f24] at hfr
    have f25 : a9.eval (.tmp 25) = _ := f25
    rw [f25] at hfr
    have f26 : a9.eval (.tmp 26) = _ := f26
    rw [f26] at hfr
    have f27 : a9.eval (.tmp 27) = _ := f27
    rw [f27] at hfr
    have f28 : a9.eval (.tmp 28) = _ := f28
    rw [f28] at hfr
    have f29 : a9.eval (.tmp 29) = _ := f29
    rw [f29] at hfr
    have f30 : a9.eval (.tmp 30) = _ := f30
    rw [f30] at hfr
    have f31 : a9.eval (.tmp 31) = _ := f31
    rw [f31] at hfr
    have f32 : a9.eval (.tmp 32) = _ := f32
    rw [f32] at hfr
    clear hall hm9
    have R9 := HR.out.grown0 hgV9
    refine wpList_storeC rfl rfl _ _ rfl g j t _ r f32 f30 R9 HJ.out ?_
    have R3 := R9.set j (.int .i16 r)
    have G3 := grown_trans2 (grown_none hgV9 (some g)) (grown_set V9 g j (.int .i16 r))
    generalize V9.setCell ⟨g, j, none⟩ (.int .i16 r) = W3 at *
    have HE := Lib.hid (And.intro R3 G3)
    clear f20
    clear f21
    clear f22
    clear f23
    clear f24
    clear f25
    clear f26
    clear f27
    clear f28
    clear f29
    clear f30
    clear f31
    clear f32
    clear R9 R3 G3 hgV9
    unfold wpList
    rw [hfr]
    clear hfr
    go_simp
    go_wp2
    refine bodyPost_end (results_none rfl _ _ _) rfl ?_
    refine ⟨rfl, ?_, HE.out.2⟩
    have h3 := HE.out.1
    rw [HRV.out, chR_set _ _ _ _ HJ0.out] at h3
    rw [HSAW.out]
    exact h3
end Go.Proofs.Ytibofgokdjbomaa
