/-
  Several texts in one file.
-/
import Derived.Test.YtibofgokdjbomaaMCodW
import Derived.Test.YtibofgokdjbomaaMCodR
import Derived.Test.YtibofgokdjbomaaPkM
import Derived.Test.YtibofgokdjbomaaTokRow
import Derived.Test.YtibofgokdjbomaaStepOps
import Derived.Test.YtibofgokdjbomaaReg4
/-
  Chances within a greater block: what learning leaves.
-/
namespace Go.Proofs.Ytibofgokdjbomaa
set_option maxRecDepth 1000000
open Go.RowKit

/-- Chances, and what stands behind them in their block. -/
def chR (R : List Value) (l : List Nat) : List Value := chV l ++ R
theorem chR_at (R : List Value) (l : List Nat) (j : Nat) (h : j < l.length) : (chR R l)[j]? = some (.int .i16 ((l.getD j 0 : Nat) - 1024 : Int)) := by
  unfold chR
  rw [List.getElem?_append_left (by rw [chV_len]; exact h)]
  exact chV_at l j h
theorem chR_lt (R : List Value) (l : List Nat) (j : Nat) (h : j < l.length) : j < (chR R l).length := by
  unfold chR
  rw [List.length_append, chV_len]
  omega
theorem chR_set (R : List Value) (l : List Nat) (j c : Nat) (h : j < l.length) : (chR R l).set j (.int .i16 ((c : Int) - 1024)) = chR R (l.set j c) := by
  unfold chR
  rw [List.set_append_left _ _ (by rw [chV_len]; exact h), chV_set]
/-- What learning leaves. -/
def LOutR (R : List Value) (g j : Nat) (t : TypeId) (l : List Nat) (b : Bool) (w : World) (e : Ending) (w' : World) : Prop := e = .returned (.tuple #[]) ∧ Row w' g t (chR R (l.set j (saw (l.getD j 0) b))) ∧ w.grownBy w' (some g)
set_option maxHeartbeats 4000000 in
theorem learn_in (R : List Value) (g j : Nat) (t : TypeId) (l : List Nat) (p : Int) (w : World) (hr : Row w g t (chR R l)) (hj : j < l.length) (hl : Okl l) :
    Calls Try.prog 58 #[.pointer (some ⟨g, j, none⟩), .int .i64 p] w (LOutR R g j t l (decide (p ≠ 0)) w) := by
  have hk := hl.at_ hj
  have HC := Lib.hid (chR_at R l j hj)
  have HJ := Lib.hid (chR_lt R l j hj)
  have HJ0 := Lib.hid hj
  have HR := Lib.hid hr
  have HLS := Lib.hid (show ∀ x, l.set j x = l.set j x from fun _ => rfl)
  unfold LOutR
  generalize l.getD j 0 = c at *
  obtain ⟨hk1, hk2⟩ := hk
  have HO := Lib.hid (fun w => of_any c (by omega) w)
  obtain ⟨q, hq⟩ : ∃ q : Int, q = (c : Int) - 1024 := ⟨_, rfl⟩
  rw [← hq] at HC HO
  have HQ := Lib.hid hq
  have HK := Lib.hid (And.intro hk1 hk2)
  clear hq hr hj hl HLS
  by_cases h0 : p = 0
  · subst h0
    obtain ⟨d, hd⟩ : ∃ d, d = (2048 - c) / 32 := ⟨_, rfl⟩
    obtain ⟨r, hr⟩ : ∃ r : Int, r = q + d := ⟨_, rfl⟩
    have HD := Lib.hid (show (2048 - (c : Int)) / 32 = (d : Int) ∧ 0 ≤ 2048 - (c : Int) ∧ 2048 - (c : Int) ≤ 4096 by omega)
    have HD2 := Lib.hid (show d ≤ 100 by omega)
    have HRR := Lib.hid (show q + (d : Int) = r ∧ -2048 ≤ r ∧ r ≤ 2048 by have := HQ.out; omega)
    have HSAW := Lib.hid (show saw c (decide ((0 : Int) ≠ 0)) = c + d by rw [hd]; rfl)
    have HRV := Lib.hid (show r = (((c + d : Nat) : Int)) - 1024 by have := HQ.out; omega)
    clear hd hr hk1 hk2
    go_enter Try.func58, Try.ntmps58
    go_wp2
    refine wp_region_walk3 14 [] dis_nil (by kernel_rfl) (by kernel_rfl) (by kernel_rfl) ?_
    simp only [List.take_succ_cons, List.take_zero, List.drop_succ_cons, List.drop_zero]
    refine Walk.val (G := Is (.pointer (some ⟨g, j, none⟩))) (stays_is _ _) rfl rfl (fun a w hm hd => ⟨wanted_plain rfl, st_move rfl (by rw [hm.outer 0 (by kernel_rfl)]; rfl)⟩) ?_
    refine Walk.val (G := Is (.pointer (some ⟨g, j, none⟩))) (stays_is _ _) rfl rfl (fun a w hm hd => ⟨wanted_plain rfl, st_nil rfl (hd.at_ 0 rfl rfl rfl rfl)⟩) ?_
    refine Walk.val (G := Is (.pointer (some ⟨g, j, none⟩))) (stays_is _ _) rfl rfl (fun a w hm hd => ⟨wanted_plain rfl, st_fieldC rfl (hd.at_ 1 rfl rfl rfl rfl)⟩) ?_
    refine Walk.val (G := Is (.int .i16 q)) (stays_is _ _) rfl rfl (fun a w hm hd => ⟨wanted_plain rfl, st_cell rfl (fun _ => by kernel_rfl) (hd.at_ 2 rfl rfl rfl rfl) ((HR.out.grown0 (GrownX.none2 hm.grow)).cell HC.out)⟩) ?_
    refine Walk.val (G := Is (.pointer (some ⟨g, j, none⟩))) (stays_is _ _) rfl rfl (fun a w hm hd => ⟨wanted_plain rfl, st_move rfl (by rw [hm.outer 0 (by kernel_rfl)]; rfl)⟩) ?_
    refine Walk.val (G := Is (.pointer (some ⟨g, j, none⟩))) (stays_is _ _) rfl rfl (fun a w hm hd => ⟨wanted_plain rfl, st_nil rfl (hd.at_ 4 rfl rfl rfl rfl)⟩) ?_
    refine Walk.val (G := Is (.agg #[.int .i16 q])) (stays_is _ _) rfl rfl (fun a w hm hd => ⟨wanted_plain rfl, ⟨_, ex_loadC rfl g j t _ q (hd.at_ 5 rfl rfl rfl rfl) (HR.out.grown0 (GrownX.none2 hm.grow)) HC.out, rfl⟩⟩) ?_
    refine Walk.call (G := Is (.int .i64 (c : Int))) (stays_is _ _) rfl 31 rfl (fun a w hm ha hd => ⟨wanted_plain rfl, _, ex_call1 Try.func31 (by kernel_rfl) (by kernel_rfl) rfl, by rw [show a.eval (.tmp 12) = _ from (hd.at_ 6 rfl rfl rfl rfl)]; exact Val.made (HO.out w)⟩) ?_
    refine Walk.val (G := Is (.int .i64 (2048 - c : Int))) (stays_is _ _) rfl rfl (fun a w hm hd => ⟨wanted_plain rfl, st_subi rfl rfl (hd.at_ 7 rfl rfl rfl rfl) rfl (by have := HK.out; omega)⟩) ?_
    refine Walk.val (G := Is (.int .i64 (d : Int))) (stays_is _ _) rfl rfl (fun a w hm hd => ⟨wanted_plain rfl, st_quo32 rfl (hd.at_ 8 rfl rfl rfl rfl) HD.out⟩) ?_
    refine Walk.val (G := Is (.int .i16 (d : Int))) (stays_is _ _) rfl rfl (fun a w hm hd => ⟨wanted_plain rfl, st_conv16 rfl (hd.at_ 9 rfl rfl rfl rfl) HD2.out⟩) ?_
    refine Walk.val (G := Is (.int .i16 r)) (stays_is _ _) rfl rfl (fun a w hm hd => ⟨wanted_plain rfl, st_add16 rfl (hd.at_ 3 rfl rfl rfl rfl) (hd.at_ 10 rfl rfl rfl rfl) HRR.out⟩) ?_
    refine Walk.val (G := Is (.pointer (some ⟨g, j, none⟩))) (stays_is _ _) rfl rfl (fun a w hm hd => ⟨wanted_plain rfl, st_nil rfl (hd.at_ 0 rfl rfl rfl rfl)⟩) ?_
    refine Walk.val (G := Is (.pointer (some ⟨g, j, none⟩))) (stays_is _ _) rfl rfl (fun a w hm hd => ⟨wanted_plain rfl, st_fieldC rfl (hd.at_ 12 rfl rfl rfl rfl)⟩) ?_
    intro a9 V9 hm9 hall
    have f6 : Is (.pointer (some ⟨g, j, none⟩)) (a9.eval (.tmp 6)) V9 := hall 0 _ _ rfl rfl
    have f7 : Is (.pointer (some ⟨g, j, none⟩)) (a9.eval (.tmp 7)) V9 := hall 1 _ _ rfl rfl
    have f8 : Is (.pointer (some ⟨g, j, none⟩)) (a9.eval (.tmp 8)) V9 := hall 2 _ _ rfl rfl
    have f9 : Is (.int .i16 q) (a9.eval (.tmp 9)) V9 := hall 3 _ _ rfl rfl
    have f10 : Is (.pointer (some ⟨g, j, none⟩)) (a9.eval (.tmp 10)) V9 := hall 4 _ _ rfl rfl
    have f11 : Is (.pointer (some ⟨g, j, none⟩)) (a9.eval (.tmp 11)) V9 := hall 5 _ _ rfl rfl
    have f12 : Is (.agg #[.int .i16 q]) (a9.eval (.tmp 12)) V9 := hall 6 _ _ rfl rfl
    have f13 : Is (.int .i64 (c : Int)) (a9.eval (.tmp 13)) V9 := hall 7 _ _ rfl rfl
    have f14 : Is (.int .i64 (2048 - c : Int)) (a9.eval (.tmp 14)) V9 := hall 8 _ _ rfl rfl
    have f15 : Is (.int .i64 (d : Int)) (a9.eval (.tmp 15)) V9 := hall 9 _ _ rfl rfl
    have f16 : Is (.int .i16 (d : Int)) (a9.eval (.tmp 16)) V9 := hall 10 _ _ rfl rfl
    have f17 : Is (.int .i16 r) (a9.eval (.tmp 17)) V9 := hall 11 _ _ rfl rfl
    have f18 : Is (.pointer (some ⟨g, j, none⟩)) (a9.eval (.tmp 18)) V9 := hall 12 _ _ rfl rfl
    have f19 : Is (.pointer (some ⟨g, j, none⟩)) (a9.eval (.tmp 19)) V9 := hall 13 _ _ rfl rfl
    have hfr := hm9.frame
    simp only [List.take_succ_cons, List.take_zero, List.filterMap_cons, List.filterMap_nil, List.foldl_cons, List.foldl_nil] at hfr
    have hgV9 := GrownX.none2 hm9.grow
    have f6 : a9.eval (.tmp 6) = _ := f6
    rw [f6] at hfr
    have f7 : a9.eval (.tmp 7) = _ := f7
    rw [f7] at hfr
    have f8 : a9.eval (.tmp 8) = _ := f8
    rw [f8] at hfr
    have f9 : a9.eval (.tmp 9) = _ := f9
    rw [f9] at hfr
    have f10 : a9.eval (.tmp 10) = _ := f10
    rw [f10] at hfr
    have f11 : a9.eval (.tmp 11) = _ := f11
    rw [f11] at hfr
    have f12 : a9.eval (.tmp 12) = _ := f12
    rw [f12] at hfr
    have f13 : a9.eval (.tmp 13) = _ := f13
    rw [f13] at hfr
    have f14 : a9.eval (.tmp 14) = _ := f14
    rw [f14] at hfr
    have f15 : a9.eval (.tmp 15) = _ := f15
    rw [f15] at hfr
    have f16 : a9.eval (.tmp 16) = _ := f16
    rw [f16] at hfr
    have f17 : a9.eval (.tmp 17) = _ := f17
    rw [f17] at hfr
    have f18 : a9.eval (.tmp 18) = _ := f18
    rw [f18] at hfr
    have f19 : a9.eval (.tmp 19) = _ := f19
    rw [f19] at hfr
    clear hall hm9
    have R9 := HR.out.grown0 hgV9
    refine wpList_storeC rfl rfl _ _ rfl g j t _ r f19 f17 R9 HJ.out ?_
    have R3 := R9.set j (.int .i16 r)
    have G3 := grown_trans2 (grown_none hgV9 (some g)) (grown_set V9 g j (.int .i16 r))
    generalize V9.setCell ⟨g, j, none⟩ (.int .i16 r) = W3 at *
    have HE := Lib.hid (And.intro R3 G3)
    clear f6
    clear f7
    clear f8
    clear f9
    clear f10
    clear f11
    clear f12
    clear f13
    clear f14
    clear f15
    clear f16
    clear f17
    clear f18
    clear f19
    clear R9 R3 G3 hgV9
    unfold wpList
    rw [hfr]
    clear hfr
    go_simp
    go_wp2
    refine bodyPost_end (results_none rfl _ _ _) rfl ?_
    refine ⟨rfl, ?_, HE.out.2⟩
    have h3 := HE.out.1
    rw [HRV.out, chR_set _ _ _ _ HJ0.out] at h3
    rw [HSAW.out]
    exact h3
  · have hq0 : (p == 0) = false := by simpa using h0
    have hdq : decide (p ≠ 0) = true := by simpa using h0
    rw [hdq]
    obtain ⟨d, hd⟩ : ∃ d, d = c / 32 := ⟨_, rfl⟩
    obtain ⟨r, hr⟩ : ∃ r : Int, r = q - d := ⟨_, rfl⟩
    have HD := Lib.hid (show (c : Int) / 32 = (d : Int) ∧ 0 ≤ (c : Int) ∧ (c : Int) ≤ 4096 by omega)
    have HD2 := Lib.hid (show d ≤ 100 by omega)
    have HRR := Lib.hid (show q - (d : Int) = r ∧ -2048 ≤ r ∧ r ≤ 2048 by have := HQ.out; omega)
    have HSAW := Lib.hid (show saw c true = c - d by rw [hd]; rfl)
    have HRV := Lib.hid (show r = (((c - d : Nat) : Int)) - 1024 by have := HQ.out; omega)
    clear hd hr hk1 hk2 h0 hdq
    go_enter Try.func58, Try.ntmps58
    go_wp2
    refine wp_region_walk3 13 [] dis_nil (by kernel_rfl) (by kernel_rfl) (by kernel_rfl) ?_
    simp only [List.take_succ_cons, List.take_zero, List.drop_succ_cons, List.drop_zero]
    refine Walk.val (G := Is (.pointer (some ⟨g, j, none⟩))) (stays_is _ _) rfl rfl (fun a w hm hd => ⟨wanted_plain rfl, st_move rfl (by rw [hm.outer 0 (by kernel_rfl)]; rfl)⟩) ?_
    refine Walk.val (G := Is (.pointer (some ⟨g, j, none⟩))) (stays_is _ _) rfl rfl (fun a w hm hd => ⟨wanted_plain rfl, st_nil rfl (hd.at_ 0 rfl rfl rfl rfl)⟩) ?_
    refine Walk.val (G := Is (.pointer (some ⟨g, j, none⟩))) (stays_is _ _) rfl rfl (fun a w hm hd => ⟨wanted_plain rfl, st_fieldC rfl (hd.at_ 1 rfl rfl rfl rfl)⟩) ?_
    refine Walk.val (G := Is (.int .i16 q)) (stays_is _ _) rfl rfl (fun a w hm hd => ⟨wanted_plain rfl, st_cell rfl (fun _ => by kernel_rfl) (hd.at_ 2 rfl rfl rfl rfl) ((HR.out.grown0 (GrownX.none2 hm.grow)).cell HC.out)⟩) ?_
    refine Walk.val (G := Is (.pointer (some ⟨g, j, none⟩))) (stays_is _ _) rfl rfl (fun a w hm hd => ⟨wanted_plain rfl, st_move rfl (by rw [hm.outer 0 (by kernel_rfl)]; rfl)⟩) ?_
    refine Walk.val (G := Is (.pointer (some ⟨g, j, none⟩))) (stays_is _ _) rfl rfl (fun a w hm hd => ⟨wanted_plain rfl, st_nil rfl (hd.at_ 4 rfl rfl rfl rfl)⟩) ?_
    refine Walk.val (G := Is (.agg #[.int .i16 q])) (stays_is _ _) rfl rfl (fun a w hm hd => ⟨wanted_plain rfl, ⟨_, ex_loadC rfl g j t _ q (hd.at_ 5 rfl rfl rfl rfl) (HR.out.grown0 (GrownX.none2 hm.grow)) HC.out, rfl⟩⟩) ?_
    refine Walk.call (G := Is (.int .i64 (c : Int))) (stays_is _ _) rfl 31 rfl (fun a w hm ha hd => ⟨wanted_plain rfl, _, ex_call1 Try.func31 (by kernel_rfl) (by kernel_rfl) rfl, by rw [show a.eval (.tmp 26) = _ from (hd.at_ 6 rfl rfl rfl rfl)]; exact Val.made (HO.out w)⟩) ?_
    refine Walk.val (G := Is (.int .i64 (d : Int))) (stays_is _ _) rfl rfl (fun a w hm hd => ⟨wanted_plain rfl, st_quo32 rfl (hd.at_ 7 rfl rfl rfl rfl) HD.out⟩) ?_
    refine Walk.val (G := Is (.int .i16 (d : Int))) (stays_is _ _) rfl rfl (fun a w hm hd => ⟨wanted_plain rfl, st_conv16 rfl (hd.at_ 8 rfl rfl rfl rfl) HD2.out⟩) ?_
    refine Walk.val (G := Is (.int .i16 r)) (stays_is _ _) rfl rfl (fun a w hm hd => ⟨wanted_plain rfl, st_sub16 rfl (hd.at_ 3 rfl rfl rfl rfl) (hd.at_ 9 rfl rfl rfl rfl) HRR.out⟩) ?_
    refine Walk.val (G := Is (.pointer (some ⟨g, j, none⟩))) (stays_is _ _) rfl rfl (fun a w hm hd => ⟨wanted_plain rfl, st_nil rfl (hd.at_ 0 rfl rfl rfl rfl)⟩) ?_
    refine Walk.val (G := Is (.pointer (some ⟨g, j, none⟩))) (stays_is _ _) rfl rfl (fun a w hm hd => ⟨wanted_plain rfl, st_fieldC rfl (hd.at_ 11 rfl rfl rfl rfl)⟩) ?_
    intro a9 V9 hm9 hall
    have f20 : Is (.pointer (some ⟨g, j, none⟩)) (a9.eval (.tmp 20)) V9 := hall 0 _ _ rfl rfl
    have f21 : Is (.pointer (some ⟨g, j, none⟩)) (a9.eval (.tmp 21)) V9 := hall 1 _ _ rfl rfl
    have f22 : Is (.pointer (some ⟨g, j, none⟩)) (a9.eval (.tmp 22)) V9 := hall 2 _ _ rfl rfl
    have f23 : Is (.int .i16 q) (a9.eval (.tmp 23)) V9 := hall 3 _ _ rfl rfl
    have f24 : Is (.pointer (some ⟨g, j, none⟩)) (a9.eval (.tmp 24)) V9 := hall 4 _ _ rfl rfl
    have f25 : Is (.pointer (some ⟨g, j, none⟩)) (a9.eval (.tmp 25)) V9 := hall 5 _ _ rfl rfl
    have f26 : Is (.agg #[.int .i16 q]) (a9.eval (.tmp 26)) V9 := hall 6 _ _ rfl rfl
    have f27 : Is (.int .i64 (c : Int)) (a9.eval (.tmp 27)) V9 := hall 7 _ _ rfl rfl
    have f28 : Is (.int .i64 (d : Int)) (a9.eval (.tmp 28)) V9 := hall 8 _ _ rfl rfl
    have f29 : Is (.int .i16 (d : Int)) (a9.eval (.tmp 29)) V9 := hall 9 _ _ rfl rfl
    have f30 : Is (.int .i16 r) (a9.eval (.tmp 30)) V9 := hall 10 _ _ rfl rfl
    have f31 : Is (.pointer (some ⟨g, j, none⟩)) (a9.eval (.tmp 31)) V9 := hall 11 _ _ rfl rfl
    have f32 : Is (.pointer (some ⟨g, j, none⟩)) (a9.eval (.tmp 32)) V9 := hall 12 _ _ rfl rfl
    have hfr := hm9.frame
    simp only [List.take_succ_cons, List.take_zero, List.filterMap_cons, List.filterMap_nil, List.foldl_cons, List.foldl_nil] at hfr
    have hgV9 := GrownX.none2 hm9.grow
    have f20 : a9.eval (.tmp 20) = _ := f20
    rw [f20] at hfr
    have f21 : a9.eval (.tmp 21) = _ := f21
    rw [f21] at hfr
    have f22 : a9.eval (.tmp 22) = _ := f22
    rw [f22] at hfr
    have f23 : a9.eval (.tmp 23) = _ := f23
    rw [f23] at hfr
    have f24 : a9.eval (.tmp 24) = _ := f24
    rw [f24] at hfr
    have f25 : a9.eval (.tmp 25) = _ := f25
    rw [f25] at hfr
    have f26 : a9.eval (.tmp 26) = _ := f26
    rw [f26] at hfr
    have f27 : a9.eval (.tmp 27) = _ := f27
    rw [f27] at hfr
    have f28 : a9.eval (.tmp 28) = _ := f28
    rw [f28] at hfr
    have f29 : a9.eval (.tmp 29) = _ := f29
    rw [f29] at hfr
    have f30 : a9.eval (.tmp 30) = _ := f30
    rw [f30] at hfr
    have f31 : a9.eval (.tmp 31) = _ := f31
    rw [f31] at hfr
    have f32 : a9.eval (.tmp 32) = _ := f32
    rw [f32] at hfr
    clear hall hm9
    have R9 := HR.out.grown0 hgV9
    refine wpList_storeC rfl rfl _ _ rfl g j t _ r f32 f30 R9 HJ.out ?_
    have R3 := R9.set j (.int .i16 r)
    have G3 := grown_trans2 (grown_none hgV9 (some g)) (grown_set V9 g j (.int .i16 r))
    generalize V9.setCell ⟨g, j, none⟩ (.int .i16 r) = W3 at *
    have HE := Lib.hid (And.intro R3 G3)
    clear f20
    clear f21
    clear f22
    clear f23
    clear f24
    clear f25
    clear f26
    clear f27
    clear f28
    clear f29
    clear f30
    clear f31
    clear f32
    clear R9 R3 G3 hgV9
    unfold wpList
    rw [hfr]
    clear hfr
    go_simp
    go_wp2
    refine bodyPost_end (results_none rfl _ _ _) rfl ?_
    refine ⟨rfl, ?_, HE.out.2⟩
    have h3 := HE.out.1
    rw [HRV.out, chR_set _ _ _ _ HJ0.out] at h3
    rw [HSAW.out]
    exact h3
end Go.Proofs.Ytibofgokdjbomaa

/-
  Chances within a greater block: a writer's Bit, a reader's.
-/
namespace Go.Proofs.Ytibofgokdjbomaa
set_option maxRecDepth 1000000
open Go.RowKit

/-- What a writer's Bit answers. -/
def BOutR (R : List Value) (g : Nat) (vb : Option Nat) (gc : Nat) (t : TypeId) (p : Cst × List Nat) (w : World) (e : Ending) (w' : World) : Prop :=
  e = .returned (.tuple #[]) ∧ ∃ vb', Wt w' g vb' p.1 ∧ Row w' gc t (chR R p.2) ∧ Wn [g, gc] w vb w' vb'
set_option maxHeartbeats 4000000 in
theorem bit_in (R : List Value) (g : Nat) (vb : Option Nat) (s : Cst) (gc j : Nat) (t : TypeId) (l : List Nat) (q : Int) (w : World) (h : Wt w g vb s) (hs : Okc s) (hl : s.out.length ≤ 900000000) (hr : Row w gc t (chR R l)) (hj : j < l.length) (hok : Okl l) (hne : gc ≠ g ∧ vb ≠ some gc) :
    Calls Try.prog 25 #[.pointer (some ⟨g, 0, none⟩), .pointer (some ⟨gc, j, none⟩), .int .i64 q] w (BOutR R g vb gc t (bitS s l j (decide (q ≠ 0))) w) := by
  have HW := Lib.hid h
  have HS := Lib.hid hs
  have HL := Lib.hid hl
  have HR := Lib.hid hr
  have HJ := Lib.hid hj
  have HOK := Lib.hid hok
  have HNE := Lib.hid hne
  have HBG := Lib.hid (begun_at g vb s w h)
  rw [show decide (0 < s.width) = true by have := hs.wide; simp; omega] at HBG
  obtain ⟨v, hrow, _⟩ := h
  have HROW := Lib.hid hrow
  have HC := Lib.hid (chR_at R l j hj)
  have HCB := Lib.hid (bound_ok hs (hok.at_ hj))
  obtain ⟨k1, k2⟩ := hok.at_ hj
  have HP := Lib.hid (fun W => Val.made (bound_any (l.getD j 0) s.width (by omega) hs.most W))
  obtain ⟨bd, hbd⟩ : ∃ bd, bd = s.width / 2048 * l.getD j 0 := ⟨_, rfl⟩
  rw [← hbd] at HCB HP
  have HBD := Lib.hid hbd
  obtain ⟨z, hz⟩ : ∃ z : Int, z = ((l.getD j 0 : Nat) - 1024 : Int) := ⟨_, rfl⟩
  rw [← hz] at HC HP
  have HPUT := Lib.hid (fun W (hW : Wt W g vb s) => put_at g vb s bd q W hW HS.out HCB.out HL.out)
  have HLN := Lib.hid (fun W (hW : Row W gc t (chR R l)) => learn_in R gc j t l q W hW HJ.out HOK.out)
  obtain ⟨bb, hbb⟩ : ∃ bb, bb = decide (q ≠ 0) := ⟨_, rfl⟩
  rw [← hbb] at HPUT HLN
  rw [← hbb]
  clear hs hl hr hj hok hne k1 k2 hbd hz hrow hbb
  go_enter Try.func25, Try.ntmps25
  go_wp2_with fail
  refine HBG.out.mono ?_
  rintro e w1 ⟨rfl, hw1⟩
  obtain rfl := hw1.symm
  go_wp2
  refine wp_region_walk3 10 [] dis_nil (by kernel_rfl) (by kernel_rfl) (by kernel_rfl) ?_
  simp only [List.take_succ_cons, List.take_zero, List.drop_succ_cons, List.drop_zero]
  refine Walk.val (G := Is (.pointer (some ⟨g, 0, none⟩))) (stays_is _ _) rfl rfl (fun a w hm hd => ⟨wanted_plain rfl, st_move rfl (by rw [hm.outer 0 (by kernel_rfl)]; rfl)⟩) ?_
  refine Walk.val (G := Is (.pointer (some ⟨gc, j, none⟩))) (stays_is _ _) rfl rfl (fun a w hm hd => ⟨wanted_plain rfl, st_move rfl (by rw [hm.outer 1 (by kernel_rfl)]; rfl)⟩) ?_
  refine Walk.val (G := Is (.pointer (some ⟨gc, j, none⟩))) (stays_is _ _) rfl rfl (fun a w hm hd => ⟨wanted_plain rfl, st_nil rfl (hd.at_ 1 rfl rfl rfl rfl)⟩) ?_
  refine Walk.val (G := Is (.agg #[.int .i16 z])) (stays_is _ _) rfl rfl (fun a w hm hd => ⟨wanted_plain rfl, ⟨_, ex_loadC rfl gc j t _ z (hd.at_ 2 rfl rfl rfl rfl) (HR.out.grown0 (GrownX.none2 hm.grow)) HC.out, rfl⟩⟩) ?_
  refine Walk.val (G := Is (.pointer (some ⟨g, 0, none⟩))) (stays_is _ _) rfl rfl (fun a w hm hd => ⟨wanted_plain rfl, st_move rfl (by rw [hm.outer 0 (by kernel_rfl)]; rfl)⟩) ?_
  refine Walk.val (G := Is (.pointer (some ⟨g, 0, none⟩))) (stays_is _ _) rfl rfl (fun a w hm hd => ⟨wanted_plain rfl, st_nil rfl (hd.at_ 4 rfl rfl rfl rfl)⟩) ?_
  refine Walk.val (G := Is (.pointer (some ⟨g, 2, none⟩))) (stays_is _ _) rfl rfl (fun a w hm hd => ⟨wanted_plain rfl, st_fieldW2 rfl (hd.at_ 5 rfl rfl rfl rfl)⟩) ?_
  refine Walk.val (G := Is (.int .u32 (s.width : Int))) (stays_is _ _) rfl rfl (fun a w hm hd => ⟨wanted_plain rfl, st_cell rfl (fun _ => by kernel_rfl) (hd.at_ 6 rfl rfl rfl rfl) ((HROW.out.grown0 (GrownX.none2 hm.grow)).cell (j := 2) rfl)⟩) ?_
  refine Walk.call (G := Is (.int .u32 (bd : Int))) (stays_is _ _) rfl 57 rfl (fun a w hm ha hd => ⟨wanted_plain rfl, _, ex_call2 Try.func57 (by kernel_rfl) (by kernel_rfl) rfl, by rw [show a.eval (.tmp 16) = _ from (hd.at_ 3 rfl rfl rfl rfl), show a.eval (.tmp 20) = _ from (hd.at_ 7 rfl rfl rfl rfl)]; exact HP.out w⟩) ?_
  refine Walk.val (G := Is (.int .i64 q)) (stays_is _ _) rfl rfl (fun a w hm hd => ⟨wanted_plain rfl, st_move rfl (by rw [hm.outer 2 (by kernel_rfl)]; rfl)⟩) ?_
  intro a9 V9 hm9 hall
  have f13 : Is (.pointer (some ⟨g, 0, none⟩)) (a9.eval (.tmp 13)) V9 := hall 0 _ _ rfl rfl
  have f14 : Is (.pointer (some ⟨gc, j, none⟩)) (a9.eval (.tmp 14)) V9 := hall 1 _ _ rfl rfl
  have f15 : Is (.pointer (some ⟨gc, j, none⟩)) (a9.eval (.tmp 15)) V9 := hall 2 _ _ rfl rfl
  have f16 : Is (.agg #[.int .i16 z]) (a9.eval (.tmp 16)) V9 := hall 3 _ _ rfl rfl
  have f17 : Is (.pointer (some ⟨g, 0, none⟩)) (a9.eval (.tmp 17)) V9 := hall 4 _ _ rfl rfl
  have f18 : Is (.pointer (some ⟨g, 0, none⟩)) (a9.eval (.tmp 18)) V9 := hall 5 _ _ rfl rfl
  have f19 : Is (.pointer (some ⟨g, 2, none⟩)) (a9.eval (.tmp 19)) V9 := hall 6 _ _ rfl rfl
  have f20 : Is (.int .u32 (s.width : Int)) (a9.eval (.tmp 20)) V9 := hall 7 _ _ rfl rfl
  have f21 : Is (.int .u32 (bd : Int)) (a9.eval (.tmp 21)) V9 := hall 8 _ _ rfl rfl
  have f22 : Is (.int .i64 q) (a9.eval (.tmp 22)) V9 := hall 9 _ _ rfl rfl
  have hfr := hm9.frame
  simp only [List.take_succ_cons, List.take_zero, List.filterMap_cons, List.filterMap_nil, List.foldl_cons, List.foldl_nil] at hfr
  have hgV9 := GrownX.none2 hm9.grow
  have f13 : a9.eval (.tmp 13) = _ := f13
  rw [f13] at hfr
  have f14 : a9.eval (.tmp 14) = _ := f14
  rw [f14] at hfr
  have f15 : a9.eval (.tmp 15) = _ := f15
  rw [f15] at hfr
  have f16 : a9.eval (.tmp 16) = _ := f16
  rw [f16] at hfr
  have f17 : a9.eval (.tmp 17) = _ := f17
  rw [f17] at hfr
  have f18 : a9.eval (.tmp 18) = _ := f18
  rw [f18] at hfr
  have f19 : a9.eval (.tmp 19) = _ := f19
  rw [f19] at hfr
  have f20 : a9.eval (.tmp 20) = _ := f20
  rw [f20] at hfr
  have f21 : a9.eval (.tmp 21) = _ := f21
  rw [f21] at hfr
  have f22 : a9.eval (.tmp 22) = _ := f22
  rw [f22] at hfr
  clear hall hm9
  have H9 := Lib.hid (HW.out.grown0 hgV9)
  have R9 := Lib.hid (HR.out.grown0 hgV9)
  have G9 := Lib.hid hgV9
  clear hgV9
  clear f13
  clear f14
  clear f15
  clear f16
  clear f17
  clear f18
  clear f19
  clear f20
  clear f21
  clear f22
  unfold wpList
  rw [hfr]
  clear hfr
  go_simp
  go_wp2_with fail
  refine .inl ((HPUT.out V9 H9.out).mono ?_)
  rintro e w2 ⟨rfl, vb', ht2, hn2⟩
  have HT2 := Lib.hid ht2
  have HN2 := Lib.hid (((Wn.refl [g] w vb).grown0 G9.out).trans hn2)
  have HR2 := Lib.hid (R9.out.wn hn2 (fun e => HNE.out.1 (List.mem_singleton.1 e)) (fun e => HNE.out.2 e.symm))
  clear ht2 hn2
  go_wp2_with fail
  refine (HLN.out w2 HR2.out).mono ?_
  rintro e w3 ⟨rfl, hr3, hg3⟩
  have HE := Lib.hid (And.intro hr3 hg3)
  clear hr3 hg3
  go_wp2
  refine bodyPost_end (results_none rfl _ _ _) rfl ?_
  have hvb' : vb' ≠ some gc := by
    rcases HN2.out.row with e | ⟨b, e, hb⟩
    · rw [e]; exact HNE.out.2
    · rw [e]; intro e2; cases e2; have := HR.out.lt; omega
  refine ⟨rfl, vb', ?_, HE.out.1, ?_⟩
  · have := HT2.out.grown HE.out.2 (by intro e; cases e; exact HNE.out.1 rfl) (fun b hb e => by cases e; exact hvb' hb)
    rw [HBD.out] at this
    exact this
  · exact (HN2.out.mono (fun k hk => by simp at hk; simp [hk])).grown HE.out.2 (fun b e => by cases e; exact .inl (by simp))
/-- What a reader's Bit answers. -/
def RBOutR (R : List Value) (g : Nat) (vb : Option Nat) (gc : Nat) (t : TypeId) (p : Bool × Rst × List Nat) (w : World) (e : Ending) (w' : World) : Prop :=
  e = .returned (.int .i64 (p.1.toNat : Int)) ∧ Rs w' g vb p.2.1 ∧ Row w' gc t (chR R p.2.2) ∧ Wn [g, gc] w none w' none
set_option maxHeartbeats 4000000 in
theorem rbit_in (R : List Value) (g : Nat) (vb : Option Nat) (r : Rst) (gc j : Nat) (t : TypeId) (l : List Nat) (w : World) (h : Rs w g vb r) (hs : Okr r) (hr : Row w gc t (chR R l)) (hj : j < l.length) (hok : Okl l) (hne : gc ≠ g ∧ vb ≠ some gc) :
    Calls Try.prog 52 #[.pointer (some ⟨g, 0, none⟩), .pointer (some ⟨gc, j, none⟩)] w (RBOutR R g vb gc t (bitR r l j) w) := by
  have HW := Lib.hid h
  have HR := Lib.hid hr
  have HNE := Lib.hid hne
  have HOP := Lib.hid (opened_at g vb r w h (by have := hs.wide; omega))
  obtain ⟨v, hrow, _⟩ := h
  have HROW := Lib.hid hrow
  have HC := Lib.hid (chR_at R l j hj)
  have hcb := boundR_ok hs (hok.at_ hj)
  obtain ⟨k1, k2⟩ := hok.at_ hj
  have HP := Lib.hid (fun W => Val.made (bound_any (l.getD j 0) r.width (by omega) hs.most W))
  obtain ⟨bd, hbd⟩ : ∃ bd, bd = r.width / 2048 * l.getD j 0 := ⟨_, rfl⟩
  rw [← hbd] at hcb HP
  have HTK := Lib.hid (fun W (hW : Rs W g vb r) => take_at g vb r bd W hW hs hcb.1 hcb.2)
  have HBR := Lib.hid (show bitR r l j = ((takeR r bd).1, (takeR r bd).2, l.set j (saw (l.getD j 0) (takeR r bd).1)) by rw [hbd]; rfl)
  obtain ⟨z, hz⟩ : ∃ z : Int, z = ((l.getD j 0 : Nat) - 1024 : Int) := ⟨_, rfl⟩
  rw [← hz] at HC HP
  have HLN := Lib.hid (fun W (hW : Row W gc t (chR R l)) => learn_in R gc j t l (((takeR r bd).1.toNat : Nat) : Int) W hW hj hok)
  rw [bit_dec] at HLN
  rw [HBR.out]
  generalize takeR r bd = TR at *
  clear hs hr hj hok hne k1 k2 hbd hz hrow hcb
  go_enter Try.func52, Try.ntmps52
  go_wp2_with fail
  refine HOP.out.mono ?_
  rintro e w1 ⟨rfl, hw1⟩
  obtain rfl := hw1.symm
  go_wp2
  refine wp_region_walk3 9 [] dis_nil (by kernel_rfl) (by kernel_rfl) (by kernel_rfl) ?_
  simp only [List.take_succ_cons, List.take_zero, List.drop_succ_cons, List.drop_zero]
  refine Walk.val (G := Is (.pointer (some ⟨g, 0, none⟩))) (stays_is _ _) rfl rfl (fun a w hm hd => ⟨wanted_plain rfl, st_move rfl (by rw [hm.outer 0 (by kernel_rfl)]; rfl)⟩) ?_
  refine Walk.val (G := Is (.pointer (some ⟨gc, j, none⟩))) (stays_is _ _) rfl rfl (fun a w hm hd => ⟨wanted_plain rfl, st_move rfl (by rw [hm.outer 1 (by kernel_rfl)]; rfl)⟩) ?_
  refine Walk.val (G := Is (.pointer (some ⟨gc, j, none⟩))) (stays_is _ _) rfl rfl (fun a w hm hd => ⟨wanted_plain rfl, st_nil rfl (hd.at_ 1 rfl rfl rfl rfl)⟩) ?_
  refine Walk.val (G := Is (.agg #[.int .i16 z])) (stays_is _ _) rfl rfl (fun a w hm hd => ⟨wanted_plain rfl, ⟨_, ex_loadC rfl gc j t _ z (hd.at_ 2 rfl rfl rfl rfl) (HR.out.grown0 (GrownX.none2 hm.grow)) HC.out, rfl⟩⟩) ?_
  refine Walk.val (G := Is (.pointer (some ⟨g, 0, none⟩))) (stays_is _ _) rfl rfl (fun a w hm hd => ⟨wanted_plain rfl, st_move rfl (by rw [hm.outer 0 (by kernel_rfl)]; rfl)⟩) ?_
  refine Walk.val (G := Is (.pointer (some ⟨g, 0, none⟩))) (stays_is _ _) rfl rfl (fun a w hm hd => ⟨wanted_plain rfl, st_nil rfl (hd.at_ 4 rfl rfl rfl rfl)⟩) ?_
  refine Walk.val (G := Is (.pointer (some ⟨g, 2, none⟩))) (stays_is _ _) rfl rfl (fun a w hm hd => ⟨wanted_plain rfl, st_fieldR2 rfl (hd.at_ 5 rfl rfl rfl rfl)⟩) ?_
  refine Walk.val (G := Is (.int .u32 (r.width : Int))) (stays_is _ _) rfl rfl (fun a w hm hd => ⟨wanted_plain rfl, st_cell rfl (fun _ => by kernel_rfl) (hd.at_ 6 rfl rfl rfl rfl) ((HROW.out.grown0 (GrownX.none2 hm.grow)).cell (j := 2) rfl)⟩) ?_
  refine Walk.call (G := Is (.int .u32 (bd : Int))) (stays_is _ _) rfl 57 rfl (fun a w hm ha hd => ⟨wanted_plain rfl, _, ex_call2 Try.func57 (by kernel_rfl) (by kernel_rfl) rfl, by rw [show a.eval (.tmp 16) = _ from (hd.at_ 3 rfl rfl rfl rfl), show a.eval (.tmp 20) = _ from (hd.at_ 7 rfl rfl rfl rfl)]; exact HP.out w⟩) ?_
  intro a9 V9 hm9 hall
  have f13 : Is (.pointer (some ⟨g, 0, none⟩)) (a9.eval (.tmp 13)) V9 := hall 0 _ _ rfl rfl
  have f14 : Is (.pointer (some ⟨gc, j, none⟩)) (a9.eval (.tmp 14)) V9 := hall 1 _ _ rfl rfl
  have f15 : Is (.pointer (some ⟨gc, j, none⟩)) (a9.eval (.tmp 15)) V9 := hall 2 _ _ rfl rfl
  have f16 : Is (.agg #[.int .i16 z]) (a9.eval (.tmp 16)) V9 := hall 3 _ _ rfl rfl
  have f17 : Is (.pointer (some ⟨g, 0, none⟩)) (a9.eval (.tmp 17)) V9 := hall 4 _ _ rfl rfl
  have f18 : Is (.pointer (some ⟨g, 0, none⟩)) (a9.eval (.tmp 18)) V9 := hall 5 _ _ rfl rfl
  have f19 : Is (.pointer (some ⟨g, 2, none⟩)) (a9.eval (.tmp 19)) V9 := hall 6 _ _ rfl rfl
  have f20 : Is (.int .u32 (r.width : Int)) (a9.eval (.tmp 20)) V9 := hall 7 _ _ rfl rfl
  have f21 : Is (.int .u32 (bd : Int)) (a9.eval (.tmp 21)) V9 := hall 8 _ _ rfl rfl
  have hfr := hm9.frame
  simp only [List.take_succ_cons, List.take_zero, List.filterMap_cons, List.filterMap_nil, List.foldl_cons, List.foldl_nil] at hfr
  have hgV9 := GrownX.none2 hm9.grow
  have f13 : a9.eval (.tmp 13) = _ := f13
  rw [f13] at hfr
  have f14 : a9.eval (.tmp 14) = _ := f14
  rw [f14] at hfr
  have f15 : a9.eval (.tmp 15) = _ := f15
  rw [f15] at hfr
  have f16 : a9.eval (.tmp 16) = _ := f16
  rw [f16] at hfr
  have f17 : a9.eval (.tmp 17) = _ := f17
  rw [f17] at hfr
  have f18 : a9.eval (.tmp 18) = _ := f18
  rw [f18] at hfr
  have f19 : a9.eval (.tmp 19) = _ := f19
  rw [f19] at hfr
  have f20 : a9.eval (.tmp 20) = _ := f20
  rw [f20] at hfr
  have f21 : a9.eval (.tmp 21) = _ := f21
  rw [f21] at hfr
  clear hall hm9
  have H9 := Lib.hid (HW.out.grown0 hgV9)
  have R9 := Lib.hid (HR.out.grown0 hgV9)
  have G9 := Lib.hid hgV9
  clear hgV9
  clear f13
  clear f14
  clear f15
  clear f16
  clear f17
  clear f18
  clear f19
  clear f20
  clear f21
  unfold wpList
  rw [hfr]
  clear hfr
  go_simp
  go_wp2_with fail
  refine .inl ((HTK.out V9 H9.out).mono ?_)
  rintro e w2 ⟨rfl, ht2, hg2⟩
  have HT2 := Lib.hid ht2
  have HN2 := Lib.hid (((Wn.refl [g, gc] w none).grown0 G9.out).grown hg2 (fun b e => by cases e; exact .inl (by simp)))
  have HR2 := Lib.hid (R9.out.grown hg2 (fun e => by cases e; exact HNE.out.1 rfl))
  clear ht2 hg2
  go_wp2_with fail
  refine (HLN.out w2 HR2.out).mono ?_
  rintro e w3 ⟨rfl, hr3, hg3⟩
  have HE := Lib.hid (And.intro hr3 hg3)
  clear hr3 hg3
  go_wp2
  go_ret
  refine ⟨rfl, ?_, HE.out.1, ?_⟩
  · exact HT2.out.grown HE.out.2 (by intro e; cases e; exact HNE.out.1 rfl) (fun b hb e => by cases e; exact HNE.out.2 hb)
  · exact HN2.out.grown HE.out.2 (fun b e => by cases e; exact .inl (by simp))

end Go.Proofs.Ytibofgokdjbomaa

/-
  Chances within a greater block: a writer's Tree, a reader's.
-/
namespace Go.Proofs.Ytibofgokdjbomaa
set_option maxRecDepth 1000000
open Go.RowKit

set_option maxHeartbeats 4000000 in
theorem tree_in (R : List Value) (base : Nat) (g : Nat) (vb : Option Nat) (s : Cst) (gc : Nat) (t : TypeId) (l : List Nat) (m c : Nat) (n : Int) (B : Nat) (w : World) (h : Wt w g vb s) (hs : Okc s) (hl : s.out.length ≤ 800000000) (hr : Row w gc t (chR R l)) (hm : base + m ≤ l.length) (hok : Okl l) (hne : gc ≠ g ∧ vb ≠ some gc)
    (hB : B ≤ 16) (hBm : 2 ^ B ≤ m) (hm2 : m ≤ 131072) (hn : -9223372036854775808 ≤ n ∧ n ≤ 9223372036854775807) :
    Calls Try.prog 30 #[.pointer (some ⟨g, 0, none⟩), .slice (some ⟨gc, base, none⟩) m c, .int .i64 n, .int .i64 (B : Int)] w (BOutR R g vb gc t (treeB s l base n B 1) w) := by
  have HIT := Lib.hid (fun W => isTree_yes (some ⟨gc, base, none⟩) m c B hB hBm W)
  have HW := Lib.hid h
  have HR := Lib.hid hr
  have HS := Lib.hid hs
  have HL := Lib.hid hl
  have HN := Lib.hid hne
  have HOK := Lib.hid hok
  have HM := Lib.hid hm
  have HBM := Lib.hid (show (1 + 1) * 2 ^ B ≤ 2 * m by omega)
  clear h hr hs hl hne hok hm hBm
  go_enter Try.func30, Try.ntmps30
  go_wp2_with fail
  refine (HIT.out _).mono ?_
  rintro e w1 ⟨rfl, hw1⟩
  obtain rfl := hw1.symm
  go_wp2
  go_loopw [8, 16] (fun pl i W => ∃ (k p : Nat) (S : Cst) (L : List Nat) (vb' : Option Nat), k ≤ B ∧ i = .int .i64 k ∧ pl = .int .i64 p ∧ p ≤ 300000 ∧ (Okc S ∧ Okl L ∧ base + m ≤ L.length ∧ (p + 1) * 2 ^ (B - k) ≤ 2 * m ∧ S.out.length ≤ s.out.length + k) ∧ treeB S L base n (B - k) p = treeB s l base n B 1 ∧ (Wt W g vb' S ∧ Row W gc t (chR R L) ∧ vb' ≠ some gc ∧ Wn [g, gc] w vb W vb')) (fun _ i _ => B - (intOf i).toNat)
  case atStart => exact ⟨0, 1, s, l, vb, Nat.zero_le _, rfl, rfl, by decide, ⟨HS.out, HOK.out, HM.out, HBM.out, Nat.le_refl _⟩, rfl, HW.out, HR.out, HN.out.2, Wn.refl _ _ _⟩
  case round =>
    obtain ⟨k, p, S, L, vb', hk, rfl, rfl, hp2, ho, htr, hh⟩ := hrel
    have HO := Lib.hid ho
    have HH := Lib.hid hh
    by_cases hlt : k < B
    · have hd : decide ((k : Int) < (B : Int)) = true := by simp; omega
      obtain ⟨kk, hkk⟩ : ∃ kk, kk = B - 1 - k := ⟨_, rfl⟩
      have hBk : B - k = kk + 1 := by omega
      have hpm := HO.out.2.2.2.1
      rw [hBk] at hpm
      have hpl : p < m := tree_lt hpm
      have hpi : (p : Int) < (m : Int) := by omega
      have hw1 : IntKind.i64.wrap ((B : Int) - 1) = (B : Int) - 1 := by rw [IntKind.wrap_i64]; omega
      have hw2 : IntKind.i64.wrap ((B : Int) - 1 - (k : Int)) = (kk : Int) := by rw [IntKind.wrap_i64]; omega
      have hw3 : IntKind.i64.wrap (n / 2 ^ kk) = n / 2 ^ kk := by
        have := div_in n kk hn
        rw [IntKind.wrap_i64]; omega
      have hmin : min kk 64 = kk := by omega
      have hand := bit_val n kk
      have hor := or_bit p (bitAt n kk) (by omega)
      have HBIT := Lib.hid (fun W (hW : Wt W g vb' S) (hR : Row W gc t (chR R L)) => bit_in R g vb' S gc (base + p) t L ((bitAt n kk).toNat : Int) W hW HO.out.1 (by have := HL.out; have := HO.out.2.2.2.2; omega) hR (by have := HO.out.2.2.1; omega) HO.out.2.1 ⟨HN.out.1, HH.out.2.2.1⟩)
      rw [bit_dec] at HBIT
      have htr : treeB (bitS S L (base + p) (bitAt n kk)).1 (bitS S L (base + p) (bitAt n kk)).2 base n kk (2 * p + (bitAt n kk).toNat) = treeB s l base n B 1 := by
        rw [hBk] at htr
        exact htr
      have hok2 := bitS_ok (bitAt n kk) HO.out.1 HO.out.2.1 (show base + p < L.length by have := HO.out.2.2.1; omega)
      have hlen2 := bitS_len S L (base + p) (bitAt n kk)
      have hout2 := putS_len S (S.width / 2048 * L.getD (base + p) 0) (bitAt n kk)
      have HNX := Lib.hid (show Okc (bitS S L (base + p) (bitAt n kk)).1 ∧ Okl (bitS S L (base + p) (bitAt n kk)).2 ∧ base + m ≤ (bitS S L (base + p) (bitAt n kk)).2.length ∧ (2 * p + (bitAt n kk).toNat + 1) * 2 ^ kk ≤ 2 * m ∧ (bitS S L (base + p) (bitAt n kk)).1.out.length ≤ s.out.length + (k + 1) from
        ⟨hok2.1, hok2.2, by rw [hlen2]; exact HO.out.2.2.1, tree_next _ hpm, by have := HO.out.2.2.2.2; show (putS S _ _).out.length ≤ _; omega⟩)
      generalize bitS S L (base + p) (bitAt n kk) = SL at *
      have hb1 := bit_le (bitAt n kk)
      generalize (bitAt n kk).toNat = bv at *
      have HTR := Lib.hid htr
      have HK1 := Lib.hid (show B - (k + 1) = kk by omega)
      clear ho hh htr hkk hBk hpm hok2 hlen2 hout2
      go_wp2_with fail
      refine (HBIT.out wr HH.out.1 HH.out.2.1).mono ?_
      rintro e w2 ⟨rfl, vb2, ht2, hr2, hn2⟩
      have HE2 := Lib.hid (And.intro ht2 (And.intro hr2 hn2))
      have HV2 := Lib.hid (show vb2 ≠ some gc by
        rcases hn2.row with e | ⟨b, e, hb⟩
        · rw [e]; exact HH.out.2.2.1
        · rw [e]; intro e2; cases e2; have := HH.out.2.1.lt; omega)
      clear ht2 hr2 hn2
      go_wp2
      go_roundw
      case rel => exact ⟨k + 1, 2 * p + bv, SL.1, SL.2, vb2, by omega, by go_num, rfl, by omega, by rw [HK1.out]; exact HNX.out, by rw [HK1.out]; exact HTR.out, HE2.out.1, HE2.out.2.1, HV2.out, HH.out.2.2.2.trans HE2.out.2.2⟩
      case measure => simp only [intOf]; omega
    · obtain rfl : k = B := by omega
      have HTR := Lib.hid htr
      clear ho hh htr
      go_wp2
      refine bodyPost_end (results_none rfl _ _ _) rfl ?_
      have h3 := HTR.out
      rw [Nat.sub_self] at h3
      rw [← h3]
      exact ⟨rfl, vb', HH.out.1, HH.out.2.1, HH.out.2.2.2⟩
/-- What a reader's Tree answers. -/
def RTOutR (R : List Value) (g : Nat) (vb : Option Nat) (gc : Nat) (t : TypeId) (B : Nat) (p : Nat × Rst × List Nat) (w : World) (e : Ending) (w' : World) : Prop :=
  e = .returned (.int .i64 ((p.1 : Int) - ((2 ^ B : Nat) : Int))) ∧ Rs w' g vb p.2.1 ∧ Row w' gc t (chR R p.2.2) ∧ Wn [g, gc] w none w' none
set_option maxHeartbeats 4000000 in
theorem rtree_in (R : List Value) (base : Nat) (g : Nat) (vb : Option Nat) (r : Rst) (gc : Nat) (t : TypeId) (l : List Nat) (m c : Nat) (B : Nat) (w : World) (h : Rs w g vb r) (hs : Okr r) (hr : Row w gc t (chR R l)) (hm : base + m ≤ l.length) (hok : Okl l) (hne : gc ≠ g ∧ vb ≠ some gc)
    (hB : B ≤ 16) (hBm : 2 ^ B ≤ m) (hm2 : m ≤ 131072) :
    Calls Try.prog 73 #[.pointer (some ⟨g, 0, none⟩), .slice (some ⟨gc, base, none⟩) m c, .int .i64 (B : Int)] w (RTOutR R g vb gc t B (treeRB r l base B 1) w) := by
  have HIT := Lib.hid (fun W => isTree_yes (some ⟨gc, base, none⟩) m c B hB hBm W)
  have HW := Lib.hid h
  have HR := Lib.hid hr
  have HS := Lib.hid hs
  have HN := Lib.hid hne
  have HOK := Lib.hid hok
  have HM := Lib.hid hm
  have HBM := Lib.hid (show (1 + 1) * 2 ^ B ≤ 2 * m by omega)
  have HP2 := Lib.hid hBm
  clear h hr hs hne hok hm hBm
  go_enter Try.func73, Try.ntmps73
  go_wp2_with fail
  refine (HIT.out _).mono ?_
  rintro e w1 ⟨rfl, hw1⟩
  obtain rfl := hw1.symm
  go_wp2
  go_loopw [7, 13] (fun pl i W => ∃ (k p : Nat) (S : Rst) (L : List Nat), k ≤ B ∧ i = .int .i64 k ∧ pl = .int .i64 p ∧ p ≤ 300000 ∧ (Okr S ∧ Okl L ∧ base + m ≤ L.length ∧ (p + 1) * 2 ^ (B - k) ≤ 2 * m) ∧ treeRB S L base (B - k) p = treeRB r l base B 1 ∧ (Rs W g vb S ∧ Row W gc t (chR R L) ∧ Wn [g, gc] w none W none)) (fun _ i _ => B - (intOf i).toNat)
  case atStart => exact ⟨0, 1, r, l, Nat.zero_le _, rfl, rfl, by decide, ⟨HS.out, HOK.out, HM.out, HBM.out⟩, rfl, HW.out, HR.out, Wn.refl _ _ _⟩
  case round =>
    obtain ⟨k, p, S, L, hk, rfl, rfl, hp2, ho, htr, hh⟩ := hrel
    have HO := Lib.hid ho
    have HH := Lib.hid hh
    by_cases hlt : k < B
    · have hd : decide ((k : Int) < (B : Int)) = true := by simp; omega
      obtain ⟨kk, hkk⟩ : ∃ kk, kk = B - 1 - k := ⟨_, rfl⟩
      have hBk : B - k = kk + 1 := by omega
      have hpm := HO.out.2.2.2
      rw [hBk] at hpm
      have hpl : p < m := tree_lt hpm
      have hpi : (p : Int) < (m : Int) := by omega
      have hpL : base + p < L.length := by have := HO.out.2.2.1; omega
      have HBIT := Lib.hid (rbit_in R g vb S gc (base + p) t L wr HH.out.1 HO.out.1 HH.out.2.1 hpL HO.out.2.1 HN.out)
      have htr2 : treeRB (bitR S L (base + p)).2.1 (bitR S L (base + p)).2.2 base kk (2 * p + (bitR S L (base + p)).1.toNat) = treeRB r l base B 1 := by
        rw [hBk] at htr
        exact htr
      have hok2 := bitR_ok HO.out.1 HO.out.2.1 hpL
      have HNX := Lib.hid (show Okr (bitR S L (base + p)).2.1 ∧ Okl (bitR S L (base + p)).2.2 ∧ base + m ≤ (bitR S L (base + p)).2.2.length ∧ (2 * p + (bitR S L (base + p)).1.toNat + 1) * 2 ^ kk ≤ 2 * m from
        ⟨hok2.1, hok2.2.1, by rw [hok2.2.2]; exact HO.out.2.2.1, tree_next _ hpm⟩)
      generalize bitR S L (base + p) = SL at *
      have hb1 := bit_le SL.1
      have hor := or_bit p SL.1 (by omega)
      unfold RBOutR at HBIT
      generalize SL.1.toNat = bv at *
      have HTR := Lib.hid htr2
      have HK1 := Lib.hid (show B - (k + 1) = kk by omega)
      clear ho hh htr htr2 hkk hBk hpm hok2
      go_wp2_with fail
      refine HBIT.out.mono ?_
      rintro e w2 ⟨rfl, ht2, hr2, hn2⟩
      have HE2 := Lib.hid (And.intro ht2 (And.intro hr2 hn2))
      clear ht2 hr2 hn2
      go_wp2
      go_roundw
      case rel => exact ⟨k + 1, 2 * p + bv, SL.2.1, SL.2.2, by omega, by go_num, rfl, by omega, by rw [HK1.out]; exact HNX.out, by rw [HK1.out]; exact HTR.out, HE2.out.1, HE2.out.2.1, HH.out.2.2.trans HE2.out.2.2⟩
      case measure => simp only [intOf]; omega
    · obtain rfl : k = B := by omega
      have HTR := Lib.hid htr
      have hmin : min k 64 = k := by omega
      have hw := wrap_pow k (by omega)
      have hle : 2 ^ k ≤ m := HP2.out
      obtain ⟨q, hq⟩ : ∃ q, q = (2 : Nat) ^ k := ⟨_, rfl⟩
      have HQ := Lib.hid hq
      rw [← hq] at hw hle
      have hsub : IntKind.i64.wrap ((p : Int) - (q : Int)) = (p : Int) - (q : Int) := by rw [IntKind.wrap_i64]; omega
      clear ho hh htr hq
      go_wp2
      go_ret
      have h3 := HTR.out
      rw [Nat.sub_self] at h3
      rw [← h3]
      exact ⟨by rw [← HQ.out]; rfl, HH.out.1, HH.out.2.1, HH.out.2.2⟩
end Go.Proofs.Ytibofgokdjbomaa

/-
  Layer 11's words: the last bytes, each where it will be driven out; a model in memory.
-/
namespace Go.Proofs.Ytibofgokdjbomaa
set_option maxRecDepth 1000000
open Go.RowKit

def ringFrom (r : List UInt8) : Nat → List UInt8 → List UInt8
  | _, [] => r
  | i, c :: h => ringFrom (r.set (i % 32768) c) (i + 1) h
def ringB (h : List UInt8) : List UInt8 := ringFrom (List.replicate 32768 0) 0 h
theorem ringFrom_app (c : UInt8) : ∀ (h : List UInt8) (r : List UInt8) (i : Nat), ringFrom r i (h ++ [c]) = (ringFrom r i h).set ((i + h.length) % 32768) c
  | [], _, _ => rfl
  | d :: h, r, i => by
    rw [List.cons_append, ringFrom, ringFrom_app c h, ringFrom, List.length_cons, show i + 1 + h.length = i + (h.length + 1) by omega]
theorem ringB_app (h : List UInt8) (c : UInt8) : ringB (h ++ [c]) = (ringB h).set (h.length % 32768) c := by
  unfold ringB
  rw [ringFrom_app, Nat.zero_add]
theorem ringFrom_len : ∀ (h r : List UInt8) (i : Nat), (ringFrom r i h).length = r.length
  | [], _, _ => rfl
  | c :: h, r, i => by rw [ringFrom, ringFrom_len h, List.length_set]
theorem ringB_len (h : List UInt8) : (ringB h).length = 32768 := by
  unfold ringB
  rw [ringFrom_len, List.length_replicate]
theorem getD_set_same (l : List UInt8) (i : Nat) (c : UInt8) (h : i < l.length) : (l.set i c).getD i 0 = c := by
  simp [List.getD_eq_getElem?_getD, List.getElem?_set_self h]
theorem getD_set_other (l : List UInt8) (i j : Nat) (c : UInt8) (h : i ≠ j) : (l.set i c).getD j 0 = l.getD j 0 := by
  simp [List.getD_eq_getElem?_getD, List.getElem?_set_ne h]
theorem getD_app_lt (l : List UInt8) (c : UInt8) (j : Nat) (h : j < l.length) : (l ++ [c]).getD j 0 = l.getD j 0 := by
  simp [List.getD_eq_getElem?_getD, List.getElem?_append_left h]
theorem getD_app_eq (l : List UInt8) (c : UInt8) : (l ++ [c]).getD l.length 0 = c := by
  simp [List.getD_eq_getElem?_getD]
theorem snoc_ind {p : List UInt8 → Prop} (h0 : p []) (h1 : ∀ l c, p l → p (l ++ [c])) (l : List UInt8) : p l := by
  have : ∀ n (l : List UInt8), l.length = n → p l := by
    intro n
    induction n with
    | zero => intro l hl; rw [List.length_eq_zero_iff.1 hl]; exact h0
    | succ n ih =>
      intro l hl
      have hne : l ≠ [] := by intro e; rw [e] at hl; cases hl
      rw [← List.dropLast_concat_getLast hne]
      exact h1 _ _ (ih _ (by rw [List.length_dropLast]; omega))
  exact this _ l rfl
theorem ring_at (h : List UInt8) : ∀ k, k < h.length → h.length ≤ k + 32768 → (ringB h).getD (k % 32768) 0 = h.getD k 0 := by
  refine snoc_ind (p := fun h => ∀ k, k < h.length → h.length ≤ k + 32768 → (ringB h).getD (k % 32768) 0 = h.getD k 0) (fun k hk => by simp at hk) (fun l c ih k hk hl => ?_) h
  rw [List.length_append, List.length_singleton] at hk hl
  rw [ringB_app]
  by_cases e : k = l.length
  · subst e
    rw [getD_set_same _ _ _ (by rw [ringB_len]; omega), getD_app_eq]
  · rw [getD_set_other _ _ _ _ (by omega), getD_app_lt _ _ _ (by omega)]
    exact ih k (by omega) (by omega)
theorem ring_zero (h : List UInt8) : ∀ k, h.length ≤ k → k < 32768 → (ringB h).getD k 0 = 0 := by
  refine snoc_ind (p := fun h => ∀ k, h.length ≤ k → k < 32768 → (ringB h).getD k 0 = 0) (fun k _ hk => ?_) (fun l c ih k hl hk => ?_) h
  · show (List.replicate 32768 (0 : UInt8)).getD k 0 = 0
    rw [List.getD_eq_getElem?_getD, List.getElem?_replicate, if_pos hk]
    rfl
  · rw [List.length_append, List.length_singleton] at hl
    rw [ringB_app, getD_set_other _ _ _ _ (by omega)]
    exact ih k (by omega) hk
/-- The byte so far back. -/
def backB (h : List UInt8) (back : Nat) : UInt8 := if back ≤ h.length then h.getD (h.length - back) 0 else 0
theorem ring_back (h : List UInt8) (back : Nat) (h1 : 1 ≤ back) (h2 : back ≤ 32768) : (ringB h).getD ((h.length + 32768 - back) % 32768) 0 = backB h back := by
  unfold backB
  by_cases e : back ≤ h.length
  · rw [if_pos e, ← ring_at h (h.length - back) (by omega) (by omega)]
    congr 1
    omega
  · rw [if_neg e]
    exact ring_zero h _ (by omega) (by omega)
theorem backB_one (h : List UInt8) : (backB h 1).toNat / 32 = upper h := by
  unfold upper backB
  congr 2
  rw [List.getLastD_eq_getLast?, List.getLast?_eq_getElem?]
  split
  · rw [List.getD_eq_getElem?_getD]
  · have : h = [] := List.length_eq_zero_iff.1 (by omega)
    subst this
    rfl

/-- What stands behind a model's chances. -/
def modR (kind : Nat) (h : List UInt8) : List Value := .int .i64 (kind : Int) :: (bytesV (ringB h) ++ [.int .i64 (h.length : Int)])
/-- A model lies in memory. -/
def Mo (w : World) (gm : Nat) (x : Kst) : Prop := Row w gm 87 (chR (modR x.kind x.h) x.L)
section
variable {w w' : World} {gm : Nat} {x : Kst}
theorem Mo.lt (h : Mo w gm x) : gm < w.heap.size := Row.lt h
theorem Mo.grown {row : Option Nat} (h : Mo w gm x) (hg : w.grownBy w' row) (hne : some gm ≠ row) : Mo w' gm x := Row.grown h hg hne
theorem Mo.grown0 (h : Mo w gm x) (hg : w.grownBy w' none) : Mo w' gm x := Row.grown0 h hg
theorem chR_ge (R : List Value) (l : List Nat) (j : Nat) : (chR R l)[l.length + j]? = R[j]? := by
  unfold chR
  rw [List.getElem?_append_right (by rw [chV_len]; omega), chV_len]
  congr 1
  omega
theorem Mo.kind (h : Mo w gm x) (hl : x.L.length = 2322) : w.cell? ⟨gm, 2322, none⟩ = some (.int .i64 (x.kind : Int)) := by
  refine Row.cell h ?_
  have := chR_ge (modR x.kind x.h) x.L 0
  rw [hl] at this
  rw [this]
  rfl
theorem modR_byte (kind : Nat) (h : List UInt8) (i : Nat) (hi : i < 32768) : (modR kind h)[i + 1]? = some (.int .u8 (((ringB h).getD i 0).toNat : Int)) := by
  have hb : i < (ringB h).length := by rw [ringB_len]; exact hi
  unfold modR
  rw [List.getElem?_cons_succ, List.getElem?_append_left (by simpa [bytesV] using hb)]
  simp [bytesV, byteV, List.getElem?_eq_getElem hb]
theorem modR_at (kind : Nat) (h : List UInt8) : (modR kind h)[32769]? = some (.int .i64 (h.length : Int)) := by
  unfold modR
  have e : (bytesV (ringB h)).length = 32768 := by rw [show (bytesV (ringB h)).length = (ringB h).length by simp [bytesV], ringB_len]
  rw [List.getElem?_cons_succ, List.getElem?_append_right (by omega), e]
  rfl
theorem Mo.byte (h : Mo w gm x) (hl : x.L.length = 2322) (i : Nat) (hi : i < 32768) : w.cell? ⟨gm, 2323 + i, none⟩ = some (.int .u8 (((ringB x.h).getD i 0).toNat : Int)) := by
  refine Row.cell h ?_
  have := chR_ge (modR x.kind x.h) x.L (i + 1)
  rw [hl, modR_byte _ _ _ hi] at this
  rw [← this]
  congr 1
  omega
theorem Mo.at_ (h : Mo w gm x) (hl : x.L.length = 2322) : w.cell? ⟨gm, 35091, none⟩ = some (.int .i64 (x.h.length : Int)) := by
  refine Row.cell h ?_
  have := chR_ge (modR x.kind x.h) x.L 32769
  rw [hl, modR_at] at this
  exact this
theorem chR_set2 (R : List Value) (l : List Nat) (j : Nat) (v : Value) : (chR R l).set (l.length + j) v = chR (R.set j v) l := by
  unfold chR
  rw [List.set_append_right _ _ (by rw [chV_len]; omega), chV_len]
  congr 2
  omega
theorem Mo.setKind (h : Mo w gm x) (hl : x.L.length = 2322) (k : Nat) : Mo (w.setCell ⟨gm, 2322, none⟩ (.int .i64 (k : Int))) gm { x with kind := k } := by
  have h2 := Row.set h 2322 (.int .i64 (k : Int))
  have := chR_set2 (modR x.kind x.h) x.L 0 (.int .i64 (k : Int))
  rw [hl] at this
  rw [this] at h2
  exact h2
theorem modR_put (kind : Nat) (h : List UInt8) (c : UInt8) : ((modR kind h).set (h.length % 32768 + 1) (.int .u8 (c.toNat : Int))).set 32769 (.int .i64 ((h.length + 1 : Nat) : Int)) = modR kind (h ++ [c]) := by
  unfold modR
  have e : (bytesV (ringB h)).length = 32768 := by rw [show (bytesV (ringB h)).length = (ringB h).length by simp [bytesV], ringB_len]
  rw [List.set_cons_succ, List.set_cons_succ, List.set_append_left _ _ (by omega), List.set_append_right _ _ (by rw [List.length_set]; omega), List.length_set, e, ringB_app]
  rw [show bytesV ((ringB h).set (h.length % 32768) c) = (bytesV (ringB h)).set (h.length % 32768) (.int .u8 (c.toNat : Int)) by simp [bytesV, byteV, List.map_set]]
  simp [byteV]
theorem Mo.add (h : Mo w gm x) (hl : x.L.length = 2322) (c : UInt8) :
    Mo ((w.setCell ⟨gm, 2323 + x.h.length % 32768, none⟩ (.int .u8 (c.toNat : Int))).setCell ⟨gm, 35091, none⟩ (.int .i64 ((x.h.length + 1 : Nat) : Int))) gm { x with h := x.h ++ [c] } := by
  have h2 := Row.set (Row.set h (2323 + x.h.length % 32768) (.int .u8 (c.toNat : Int))) 35091 (.int .i64 ((x.h.length + 1 : Nat) : Int))
  have e1 := chR_set2 (modR x.kind x.h) x.L (x.h.length % 32768 + 1) (.int .u8 (c.toNat : Int))
  have e2 := chR_set2 ((modR x.kind x.h).set (x.h.length % 32768 + 1) (.int .u8 (c.toNat : Int))) x.L 32769 (.int .i64 ((x.h.length + 1 : Nat) : Int))
  rw [hl] at e1 e2
  rw [show 2323 + x.h.length % 32768 = 2322 + (x.h.length % 32768 + 1) by omega, e1, e2, modR_put] at h2
  rw [show 2323 + x.h.length % 32768 = 2322 + (x.h.length % 32768 + 1) by omega]
  exact h2
end
end Go.Proofs.Ytibofgokdjbomaa

/-
  pack's model over this program: kinds, bytes back, bytes put.
-/
namespace Go.Proofs.Ytibofgokdjbomaa
set_option maxRecDepth 1000000
open Go.RowKit

theorem kindOf_any (t : Tok) (w : World) : Calls Try.prog 77 #[tokV t] w (Val (.int .i64 (kindN t : Int)) w) := by
  obtain ⟨c, n, b⟩ := t
  unfold tokV kindN
  simp only
  by_cases h : 0 < n
  · have hd : decide (0 < n) = true := by simpa using h
    rw [if_pos h]
    go_enter Try.func77, Try.ntmps77
    go_wp2
    go_ret
    exact ⟨rfl, grown_alloc (grown_refl _ _) _⟩
  · have hd : decide (0 < n) = false := by simpa using h
    rw [if_neg h]
    go_enter Try.func77, Try.ntmps77
    go_wp2
    go_ret
    exact ⟨rfl, grown_alloc (grown_refl _ _) _⟩
theorem ex_max0b {o : Oper} {a : Act} {w : World} {x : Operand} {q : Int} (h : o.op = .call { callee := .builtin .max, args := #[.const (.int .i64 0), x], argTypes := #[3, 3] }) (hx : a.eval x = .int .i64 q) : (execOp a.eval o).run Try.prog w = .ok (.value (.int .i64 (max 0 q))) w := by
  have hc : a.eval (.const (.int .i64 0)) = .int .i64 0 := rfl
  unfold execOp
  simp only [h, resolve, invoke, builtin, List.map_toArray, List.map_cons, List.map_nil, hx, hc]
  simp [go_sem]
  rw [Int.max_def]
  split <;> split <;> first | rfl | omega
theorem below_any (m : Nat) (hm : m ≤ 100) (w : World) : Calls Try.prog 76 #[.int .i64 (m : Int)] w (Val (.int .i64 ((m - 1 : Nat) : Int)) w) := by
  have hw : IntKind.i64.wrap ((m : Int) - 1) = (m : Int) - 1 := by rw [IntKind.wrap_i64]; omega
  have he : max 0 ((m : Int) - 1) = ((m - 1 : Nat) : Int) := by omega
  go_enter Try.func76, Try.ntmps76
  go_wp2_with (refine wpList_runs rfl (ex_max0b rfl rfl) ?_; rw [he])
  go_ret
  exact ⟨rfl, grown_refl _ _⟩
theorem byteBack_any (gm back : Nat) (x : Kst) (w : World) (h : Mo w gm x) (hl : x.L.length = 2322) (hb : 1 ≤ back ∧ back ≤ 32768) (hn : x.h.length ≤ 100000) :
    Calls Try.prog 79 #[.pointer (some ⟨gm, 0, none⟩), .int .i64 (back : Int)] w (Val (.int .u8 ((backB x.h back).toNat : Int)) w) := by
  have hat := h.at_ hl
  have hby := h.byte hl ((x.h.length + 32768 - back) % 32768) (by omega)
  rw [ring_back x.h back hb.1 hb.2] at hby
  have hw : IntKind.i64.wrap ((x.h.length : Int) - (back : Int)) = (x.h.length : Int) - (back : Int) := by rw [IntKind.wrap_i64]; omega
  have hm : ((x.h.length : Int) - (back : Int)) % 32768 = (((x.h.length + 32768 - back) % 32768 : Nat) : Int) := by omega
  have hlt : (x.h.length + 32768 - back) % 32768 < 32768 := by omega
  have hand : bits .and .i64 ((x.h.length : Int) - (back : Int)) 32767 = (((x.h.length + 32768 - back) % 32768 : Nat) : Int) := by
    rw [show (32767 : Int) = 2 ^ 15 - 1 from rfl, i64_mask _ 15 (by omega), ← hm]
    rfl
  generalize (x.h.length + 32768 - back) % 32768 = i at *
  generalize x.h.length = n at *
  generalize (backB x.h back).toNat = c at *
  clear h hl
  go_enter Try.func79, Try.ntmps79
  go_wp2
  go_quiet (fail)
  go_wp2
  go_ret
  exact ⟨rfl, grown_drewN (grown_refl _ _) _⟩
/-- What a call that turns a model leaves. -/
def MOut (gm : Nat) (x : Kst) (w : World) (e : Ending) (w' : World) : Prop := e = .returned (.tuple #[]) ∧ Mo w' gm x ∧ w.grownBy w' (some gm)
set_option maxHeartbeats 1000000 in
theorem add_at (gm : Nat) (x : Kst) (c : UInt8) (w : World) (h : Mo w gm x) (hl : x.L.length = 2322) (hn : x.h.length ≤ 100000) :
    Calls Try.prog 78 #[.pointer (some ⟨gm, 0, none⟩), .int .u8 (c.toNat : Int)] w (MOut gm { x with h := x.h ++ [c] } w) := by
  have hlt : x.h.length % 32768 < 32768 := by omega
  have hand : bits .and .i64 (x.h.length : Int) 32767 = ((x.h.length % 32768 : Nat) : Int) := by
    rw [show (32767 : Int) = 2 ^ 15 - 1 from rfl, i64_mask _ 15 (by omega)]
    norm_cast
  have HM := Lib.hid (show Mo w.drew gm x from h.grown0 (grown_drew (grown_refl _ _)))
  have HA := Lib.hid (HM.out.add hl c)
  have HG := Lib.hid (show w.grownBy ((w.drew.setCell ⟨gm, 2323 + x.h.length % 32768, none⟩ (.int .u8 (c.toNat : Int))).setCell ⟨gm, 35091, none⟩ (.int .i64 ((x.h.length + 1 : Nat) : Int))) (some gm) from (grown_trans2 (grown_trans2 (grown_drew (grown_refl _ _)) (grown_set _ _ _ _)) (grown_set _ _ _ _)))
  have hat := HM.out.at_ hl
  have hby := HM.out.byte hl (x.h.length % 32768) hlt
  have hf1 := Row.frozen HM.out (2323 + x.h.length % 32768)
  have hR := Row.set HM.out (2323 + x.h.length % 32768) (.int .u8 (c.toNat : Int))
  have hat2 : (w.drew.setCell ⟨gm, 2323 + x.h.length % 32768, none⟩ (.int .u8 (c.toNat : Int))).cell? ⟨gm, 35091, none⟩ = some (.int .i64 (x.h.length : Int)) := by
    refine Row.cell hR ?_
    rw [List.getElem?_set_ne (by omega)]
    have := chR_ge (modR x.kind x.h) x.L 32769
    rw [hl, modR_at] at this
    exact this
  have hf2 := Row.frozen hR 35091
  have hw : IntKind.i64.wrap ((x.h.length : Int) + 1) = (x.h.length : Int) + 1 := by rw [IntKind.wrap_i64]; omega
  rw [show ((x.h.length + 1 : Nat) : Int) = (x.h.length : Int) + 1 from rfl] at HA HG
  generalize (ringB x.h).getD (x.h.length % 32768) 0 = d at *
  generalize x.h.length % 32768 = i at *
  generalize ({ x with h := x.h ++ [c] } : Kst) = y at *
  generalize x.h.length = n at *
  have hlt2 : (i : Int) < 32768 := by omega
  have hlt3 : decide ((i : Int) < 32768) = true := by simpa using hlt2
  clear h hl HM hR
  go_enter Try.func78, Try.ntmps78
  go_wp2
  refine wp_region_still_tail 10 (by kernel_rfl) (by kernel_rfl) ?_
  change wpStill _ _ w.drew (fun a' => wpList _ _ _ _ a' w.drew) _ _
  generalize w.drew = W at *
  simp only [List.take_succ_cons, List.take_zero, List.drop_succ_cons, List.drop_zero]
  repeat still_step
  refine wpStill_nil ?_
  go_wp2
  refine bodyPost_end (results_none rfl _ _ _) rfl ?_
  exact ⟨rfl, HA.out, HG.out⟩
end Go.Proofs.Ytibofgokdjbomaa

/-
  pack's model over this program: past a token.
-/
namespace Go.Proofs.Ytibofgokdjbomaa
set_option maxRecDepth 1000000
open Go.RowKit

set_option maxHeartbeats 4000000 in
theorem pass_at (gm : Nat) (x : Kst) (t : Tok) (w : World) (h : Mo w gm x) (hl : x.L.length = 2322) (hr : right t = true) (hb : t.back ≤ x.h.length) (hn : x.h.length ≤ 65536) :
    Calls Try.prog 44 #[.pointer (some ⟨gm, 0, none⟩), tokV t] w (MOut gm (nextK x x.L t) w) := by
  obtain ⟨r1, r2, r3, r4, r5, r6⟩ := right_len hr
  have HK := Lib.hid (fun W => kindOf_any t W)
  obtain ⟨gt, hgt⟩ : ∃ gt, w.heap.size = gt := ⟨_, rfl⟩
  obtain ⟨c, n, b⟩ := t
  simp only at r1 r2 r3 r4 r5 r6 hb
  obtain ⟨W1, hW1⟩ : ∃ W, w.alloc (.cells #[.int .u8 (c.toNat : Int), .int .i64 n, .int .i64 b] 37) = W := ⟨_, rfl⟩
  have hg1 : w.grownBy W1 none := by rw [← hW1]; exact grown_alloc (grown_refl _ _) _
  have HT1 := Lib.hid (show Row W1 gt 37 [.int .u8 (c.toNat : Int), .int .i64 n, .int .i64 b] by rw [← hW1]; exact Row.newAt w _ [.int .u8 (c.toNat : Int), .int .i64 n, .int .i64 b] hgt)
  have HM1 := Lib.hid (h.grown0 hg1)
  have HNE := Lib.hid (show gt ≠ gm from fun e => by have := h.lt; omega)
  have HG1 := Lib.hid (grown_trans2 (row := some gm) ⟨hg1.os, hg1.tape, hg1.output, hg1.size, fun k hk _ => hg1.block k hk (by simp)⟩ (grown_refl W1 _))
  have HL := Lib.hid hl
  have e0 := HT1.out.cell (j := 0) rfl
  have e1 := HT1.out.cell (j := 1) rfl
  have e2 := HT1.out.cell (j := 2) rfl
  clear h hg1 hl
  go_enter Try.func44, Try.ntmps44
  unfold tokV
  go_wp2_with fail
  refine (HK.out W1).mono ?_
  rintro e W2 ⟨rfl, hg2⟩
  have HT2 := Lib.hid (HT1.out.grown0 hg2)
  have HM2 := Lib.hid (HM1.out.grown0 hg2)
  have HG2 := Lib.hid (grown_trans2 HG1.out (⟨hg2.os, hg2.tape, hg2.output, hg2.size, fun k hk _ => hg2.block k hk (by simp)⟩ : W1.grownBy W2 (some gm)))
  obtain ⟨kd, hkd⟩ : ∃ kd, kindN ⟨c, n, b⟩ = kd := ⟨_, rfl⟩
  rw [hkd]
  have HK2 := Lib.hid hkd
  have k2 := HM2.out.kind HL.out
  have f2 := Row.frozen HM2.out 2322
  have HM3 := Lib.hid (HM2.out.setKind HL.out kd)
  have HT3 := Lib.hid (HT2.out.other HNE.out (i := 2322) (.int .i64 (kd : Int)))
  have HG3 := Lib.hid (grown_trans2 HG2.out (grown_set W2 gm 2322 (.int .i64 (kd : Int))))
  have k3 := HM3.out.kind HL.out
  have e0 := HT3.out.cell (j := 0) rfl
  have e1 := HT3.out.cell (j := 1) rfl
  have e2 := HT3.out.cell (j := 2) rfl
  simp only at k3
  obtain ⟨W3, hW3⟩ : ∃ W, W2.setCell ⟨gm, 2322, none⟩ (.int .i64 (kd : Int)) = W := ⟨_, rfl⟩
  rw [hW3] at HM3 HT3 HG3 k3 e0 e1 e2
  clear hg2 hW1 hgt hkd HK
  by_cases hz : n = 0
  · subst hz
    obtain rfl : kd = 0 := HK2.out.symm
    have q0 : (((0 : Nat) : Int) == 0) = true := rfl
    have HB := Lib.hid (r5 rfl)
    have HADD := Lib.hid (add_at gm _ c _ HM3.out HL.out (by show x.h.length ≤ _; omega))
    have hW3 : W2.setCell ⟨gm, 2322, none⟩ (.int .i64 0) = W3 := hW3
    have k3 : W3.cell? ⟨gm, 2322, none⟩ = some (.int .i64 0) := k3
    go_wp2_with fail
    refine HADD.out.mono ?_
    rintro e W4 ⟨rfl, hm4, hg4⟩
    have HE := Lib.hid (And.intro hm4 hg4)
    clear hm4 hg4
    go_wp2
    refine bodyPost_end (results_none rfl _ _ _) rfl ?_
    exact ⟨rfl, HE.out.1, grown_trans2 HG3.out HE.out.2⟩
  · obtain rfl : kd = 1 := by
      have := HK2.out
      unfold kindN at this
      rw [if_pos (by show (0 : Int) < n; omega)] at this
      exact this.symm
    have q0 : (((1 : Nat) : Int) == 0) = false := rfl
    have hb6 := r6 hz
    obtain ⟨nb, rfl⟩ : ∃ k : Nat, b = k := ⟨b.toNat, by omega⟩
    obtain ⟨m, rfl⟩ : ∃ k : Nat, n = k := ⟨n.toNat, by omega⟩
    have HBB := Lib.hid (show 1 ≤ nb ∧ nb ≤ 32768 ∧ nb ≤ x.h.length by omega)
    have HMM := Lib.hid (show m ≤ 258 by omega)
    have hW3 : W2.setCell ⟨gm, 2322, none⟩ (.int .i64 1) = W3 := hW3
    have k3 : W3.cell? ⟨gm, 2322, none⟩ = some (.int .i64 1) := k3
    go_wp2
    go_loopw [20] (fun i W => ∃ k : Nat, k ≤ m ∧ i = .int .i64 k ∧ Mo W gm ⟨x.L, 1, copyS nb x.h k⟩ ∧ Row W gt 37 [.int .u8 (c.toNat : Int), .int .i64 (m : Int), .int .i64 (nb : Int)] ∧ w.grownBy W (some gm)) (fun i _ => m - (intOf i).toNat)
    case atStart => exact ⟨0, Nat.zero_le _, rfl, HM3.out, HT3.out, HG3.out⟩
    case round =>
      obtain ⟨k, hk, rfl, hm, ht, hg⟩ := hrel
      have HH := Lib.hid (And.intro hm (And.intro ht hg))
      have e2 := ht.cell (j := 2) rfl
      have hcl : (copyS nb x.h k).length ≤ 66000 := by rw [copyS_len]; have := HMM.out; omega
      have hge : nb ≤ (copyS nb x.h k).length := by rw [copyS_len]; have := HBB.out; omega
      clear hm ht hg
      by_cases hlt : k < m
      · have hd : decide ((k : Int) < (m : Int)) = true := by simp; omega
        have HBK := Lib.hid (byteBack_any gm nb ⟨x.L, 1, copyS nb x.h k⟩ wr HH.out.1 HL.out ⟨HBB.out.1, HBB.out.2.1⟩ (by show (copyS nb x.h k).length ≤ _; omega))
        have HBE := Lib.hid (show backB (copyS nb x.h k) nb = (copyS nb x.h k).getD ((copyS nb x.h k).length - nb) 0 by unfold backB; rw [if_pos hge])
        go_wp2_with fail
        refine HBK.out.mono ?_
        rintro e W4 ⟨rfl, hg4⟩
        have HM4 := Lib.hid (HH.out.1.grown0 hg4)
        have HT4 := Lib.hid (HH.out.2.1.grown0 hg4)
        have HG4 := Lib.hid (grown_trans2 HH.out.2.2 (⟨hg4.os, hg4.tape, hg4.output, hg4.size, fun k hk _ => hg4.block k hk (by simp)⟩ : wr.grownBy W4 (some gm)))
        have HADD := Lib.hid (add_at gm _ (backB (copyS nb x.h k) nb) _ HM4.out HL.out (by show (copyS nb x.h k).length ≤ _; omega))
        clear hg4 HBK
        simp only
        generalize (backB (copyS nb x.h k) nb) = cb at *
        go_wp2_with fail
        refine HADD.out.mono ?_
        rintro e W5 ⟨rfl, hm5, hg5⟩
        have HM5 := Lib.hid (show Mo W5 gm ⟨x.L, 1, copyS nb x.h (k + 1)⟩ by rw [copyS, ← HBE.out]; exact hm5)
        have HT5 := Lib.hid (HT4.out.grown hg5 (fun e => by cases e; exact HNE.out rfl))
        have HG5 := Lib.hid (grown_trans2 HG4.out hg5)
        clear hm5 hg5
        go_wp2
        go_roundw
        case rel => exact ⟨k + 1, by omega, by go_num, HM5.out, HT5.out, HG5.out⟩
        case measure => simp only [intOf]; omega
      · obtain rfl : k = m := by omega
        have hd : decide ((k : Int) < (k : Int)) = false := by simp
        go_wp2
        refine bodyPost_end (results_none rfl _ _ _) rfl ?_
        refine ⟨rfl, ?_, HH.out.2.2⟩
        have e : nextK x x.L ⟨c, (k : Int), (nb : Int)⟩ = ⟨x.L, 1, copyS nb x.h k⟩ := by
          unfold nextK
          rw [HK2.out]
          unfold putTok
          simp only
          rw [if_neg hz]
          rfl
        rw [e]
        exact HH.out.1
end Go.Proofs.Ytibofgokdjbomaa

/-
  Steps of regions that draw, over pack's model.
-/
namespace Go.Proofs.Ytibofgokdjbomaa
set_option maxRecDepth 1000000
open Go.RowKit

section
variable {o : Oper} {a : Act} {w : World}
def offM : Nat → Nat
  | 0 => 0
  | 1 => 2
  | 2 => 2050
  | 3 => 2306
  | 4 => 2322
  | 5 => 2323
  | _ => 35091
theorem st_fieldM {x : Operand} {g : Nat} (k : Nat) (hk : k < 7) (h : o.op = .fieldAddr 87 x k) (hx : Is (.pointer (some ⟨g, 0, none⟩)) (a.eval x) w) : Runs (Is (.pointer (some ⟨g, offM k, none⟩))) o a w := by
  have hx' : a.eval x = .pointer (some ⟨g, 0, none⟩) := hx
  refine ⟨_, ?_, rfl⟩
  simp only [execOp, h, hx']
  rcases k with _ | _ | _ | _ | _ | _ | _ | k
  all_goals first | (exfalso; omega) | kernel_rfl
theorem st_idxK {x y : Operand} {g j : Nat} (h : o.op = .indexAddr 81 x y) (hx : Is (.pointer (some ⟨g, 0, none⟩)) (a.eval x) w) (hy : Is (.int .i64 (j : Int)) (a.eval y) w) (hj : j < 2) : Runs (Is (.pointer (some ⟨g, j, none⟩))) o a w := by
  have hx' : a.eval x = .pointer (some ⟨g, 0, none⟩) := hx
  have hy' : a.eval y = .int .i64 (j : Int) := hy
  have hs : (sizeOf 62).run Try.prog w = .ok 1 w := by kernel_rfl
  refine ⟨_, ?_, rfl⟩
  simp only [execOp, h, hx', hy']
  simp [go_sem, hs, Addr.add]
  rw [if_pos (by omega)]
  split
  · subst_vars; rfl
  · rfl
theorem st_idxL {x y : Operand} {g j : Nat} (h : o.op = .indexAddr 83 x y) (hx : Is (.pointer (some ⟨g, 2, none⟩)) (a.eval x) w) (hy : Is (.int .u8 (j : Int)) (a.eval y) w) (hj : j < 8) : Runs (Is (.pointer (some ⟨g, 2 + 256 * j, none⟩))) o a w := by
  have hx' : a.eval x = .pointer (some ⟨g, 2, none⟩) := hx
  have hy' : a.eval y = .int .u8 (j : Int) := hy
  have hs : (sizeOf 82).run Try.prog w = .ok 256 w := by kernel_rfl
  refine ⟨_, ?_, rfl⟩
  simp only [execOp, h, hx', hy']
  simp [go_sem, hs, Addr.add]
  rw [if_pos (by omega), Nat.mul_comm 256 j]
  split
  · rename_i e
    rw [e]
  · rfl
theorem st_sliceC {x : Operand} {g j : Nat} (h : o.op = .slice 82 x none none none) (hx : Is (.pointer (some ⟨g, j, none⟩)) (a.eval x) w) : Runs (Is (.slice (some ⟨g, j, none⟩) 256 256)) o a w := by
  have hx' : a.eval x = .pointer (some ⟨g, j, none⟩) := hx
  refine ⟨_, ?_, rfl⟩
  simp only [execOp, h, hx']
  simp [go_sem]
theorem st_sliceK {x : Operand} {g j : Nat} (h : o.op = .slice 84 x none none none) (hx : Is (.pointer (some ⟨g, j, none⟩)) (a.eval x) w) : Runs (Is (.slice (some ⟨g, j, none⟩) 16 16)) o a w := by
  have hx' : a.eval x = .pointer (some ⟨g, j, none⟩) := hx
  refine ⟨_, ?_, rfl⟩
  simp only [execOp, h, hx']
  simp [go_sem]
theorem st_shr5 {x : Operand} {n : Nat} (h : o.op = .binOp .shr 5 x (.const (.int .u64 5)) 108) (hx : Is (.int .u8 (n : Int)) (a.eval x) w) (_ : n < 256) : Runs (Is (.int .u8 ((n / 32 : Nat) : Int))) o a w := by
  have hx' : a.eval x = .int .u8 (n : Int) := hx
  have hc : a.eval (.const (.int .u64 5)) = .int .u64 5 := rfl
  refine ⟨_, ?_, rfl⟩
  simp only [execOp, h, hx', hc]
  simp [go_sem]
end
end Go.Proofs.Ytibofgokdjbomaa

/-
  math/bits.Len over this program, of small numbers.
-/
namespace Go.Proofs.Ytibofgokdjbomaa
set_option maxRecDepth 1000000
open Go.RowKit

def lenTab (s : ByteArray) : Bool := (List.range 256).all fun i => s.data[i]? == some (UInt8.ofNat (nbits i))
theorem ex_idxTab {o : Oper} {a : Act} {w : World} {x : Operand} {s : ByteArray} (i : Nat) (hi : i < 256) (h : o.op = .index 9 (.const (.string s)) x) (hs : lenTab s = true) (hz : s.size = 256) (hx : a.eval x = .int .u8 (i : Int)) :
    (execOp a.eval o).run Try.prog w = .ok (.value (.int .u8 (nbits i : Int))) w := by
  have hc : a.eval (.const (.string s)) = .string s := rfl
  have h2 : s.data[i]? = some (UInt8.ofNat (nbits i)) := by
    have := List.all_eq_true.1 hs i (List.mem_range.2 hi)
    simpa using this
  obtain ⟨h3, h5⟩ := Array.getElem?_eq_some_iff.1 h2
  have h4 : (UInt8.ofNat (nbits i)).toNat = nbits i := by
    have := nbits_le (n := i) (k := 8) (by omega)
    rw [UInt8.toNat_ofNat']; omega
  simp only [execOp, h, hc, hx]
  simp [go_sem, hz]
  rw [dif_pos (by omega)]
  have h6 : s[i]'h3 = UInt8.ofNat (nbits i) := h5
  simp only [h6, h4]
  rfl
set_option maxHeartbeats 1000000 in
theorem len64_any (n : Nat) (hn : n < 65536) (w : World) : Calls Try.prog 90 #[.int .u64 (n : Int)] w (Val (.int .i64 (nbits n : Int)) w) := by
  have h1 : decide (4294967296 ≤ (n : Int)) = false := by simp; omega
  have h2 : decide (65536 ≤ (n : Int)) = false := by simp; omega
  by_cases h : n < 256
  · have h3 : decide (256 ≤ (n : Int)) = false := by simp; omega
    have hw8 : IntKind.u8.wrap (n : Int) = (n : Int) := by rw [IntKind.wrap_u8]; omega
    have hm : (n : Int) % 256 = (n : Int) := by omega
    have hb : nbits n ≤ 8 := nbits_le (k := 8) (by omega)
    have hw64 : wrap64 (nbits n : Int) = (nbits n : Int) := by unfold wrap64; omega
    go_enter Try.func90, Try.ntmps90
    go_wp2_with (refine wpList_runs rfl (ex_idxTab n h rfl (by kernel_rfl) (by kernel_rfl) rfl) ?_)
    go_ret
    exact ⟨rfl, grown_refl _ _⟩
  · have h3 : decide (256 ≤ (n : Int)) = true := by simp; omega
    obtain ⟨k, hk⟩ : ∃ k, n / 256 = k := ⟨_, rfl⟩
    have hk2 : k < 256 := by omega
    have hd : (n : Int) / 256 = (k : Int) := by omega
    have hw8 : IntKind.u8.wrap (k : Int) = (k : Int) := by rw [IntKind.wrap_u8]; omega
    have hm : (k : Int) % 256 = (k : Int) := by omega
    have hnb : nbits n = nbits k + 8 := by
      have e : k = n / 2 ^ 8 := hk.symm
      have a8 : ∀ j m, m / 2 ^ j ≠ 0 → nbits m = nbits (m / 2 ^ j) + j := by
        intro j
        induction j with
        | zero => intro m _; simp
        | succ j ih =>
          intro m hm
          rw [Nat.pow_succ, ← Nat.div_div_eq_div_mul] at hm ⊢
          have h0 : m / 2 ^ j ≠ 0 := fun e => hm (by rw [e])
          rw [ih m h0, nbits_half h0]
          omega
      rw [e]
      exact a8 8 n (by omega)
    have hb : nbits k ≤ 8 := nbits_le (k := 8) (by omega)
    have hn0 : ¬ n < 256 := h
    clear h
    go_enter Try.func90, Try.ntmps90
    go_wp2_with (refine wpList_runs rfl (ex_idxTab k hk2 rfl (by kernel_rfl) (by kernel_rfl) rfl) ?_)
    generalize nbits k = m at *
    have hw64 : wrap64 (m : Int) = (m : Int) := by unfold wrap64; omega
    have hw642 : wrap64 (8 + (m : Int)) = 8 + (m : Int) := by unfold wrap64; omega
    go_wp2
    go_ret
    refine ⟨?_, grown_refl _ _⟩
    show Ending.returned (.int .i64 (8 + (m : Int))) = _
    rw [hnb]
    congr 2
    omega
theorem bitsLen_any (n : Nat) (hn : n < 65536) (w : World) : Calls Try.prog 80 #[.int .u64 (n : Int)] w (Val (.int .i64 (nbits n : Int)) w) := by
  have HL := Lib.hid (fun W => len64_any n hn W)
  go_enter Try.func80, Try.ntmps80
  go_wp2_with fail
  refine (HL.out _).mono ?_
  rintro e w2 ⟨rfl, hg⟩
  generalize nbits n = m at *
  go_wp2
  go_ret
  exact ⟨rfl, hg⟩
end Go.Proofs.Ytibofgokdjbomaa

/-
  pack's model over this program: the tree of the next literal.
-/
namespace Go.Proofs.Ytibofgokdjbomaa
set_option maxRecDepth 1000000
open Go.RowKit

set_option maxHeartbeats 4000000 in
theorem treeM_any (gm : Nat) (x : Kst) (w : World) (h : Mo w gm x) (hl : x.L.length = 2322) (hn : x.h.length ≤ 100000) :
    Calls Try.prog 74 #[.pointer (some ⟨gm, 0, none⟩)] w (Val (.slice (some ⟨gm, 2 + 256 * upper x.h, none⟩) 256 256) w) := by
  have HM := Lib.hid h
  have HB := Lib.hid (fun W (hW : Mo W gm x) => Val.made (byteBack_any gm 1 x W hW hl ⟨Nat.le_refl _, by decide⟩ hn))
  have HC := Lib.hid (UInt8.toNat_lt (backB x.h 1))
  rw [← backB_one]
  generalize (backB x.h 1).toNat = c at *
  clear h hl hn
  go_enter Try.func74, Try.ntmps74
  go_wp2
  refine wp_region_walk3 8 [] dis_nil (by kernel_rfl) (by kernel_rfl) (by kernel_rfl) ?_
  simp only [List.take_succ_cons, List.take_zero, List.drop_succ_cons, List.drop_zero]
  refine Walk.val (G := Is (.pointer (some ⟨gm, 0, none⟩))) (stays_is _ _) rfl rfl (fun a w hm hd => ⟨wanted_plain rfl, st_move rfl (by rw [hm.outer 0 (by kernel_rfl)]; rfl)⟩) ?_
  refine Walk.val (G := Is (.pointer (some ⟨gm, 0, none⟩))) (stays_is _ _) rfl rfl (fun a w hm hd => ⟨wanted_plain rfl, st_move rfl (by rw [hm.outer 0 (by kernel_rfl)]; rfl)⟩) ?_
  refine Walk.call (G := Is (.int .u8 (c : Int))) (stays_is _ _) rfl 79 rfl (fun a w hm ha hd => ⟨wanted_plain rfl, _, ex_call2 Try.func79 (by kernel_rfl) (by kernel_rfl) rfl, by rw [show a.eval (.tmp 4) = _ from (hd.at_ 1 rfl rfl rfl rfl)]; exact HB.out w (HM.out.grown0 (GrownX.none2 hm.grow))⟩) ?_
  refine Walk.val (G := Is (.int .u8 ((c / 32 : Nat) : Int))) (stays_is _ _) rfl rfl (fun a w hm hd => ⟨wanted_plain rfl, st_shr5 rfl (hd.at_ 2 rfl rfl rfl rfl) HC.out⟩) ?_
  refine Walk.val (G := Is (.pointer (some ⟨gm, 0, none⟩))) (stays_is _ _) rfl rfl (fun a w hm hd => ⟨wanted_plain rfl, st_nil rfl (hd.at_ 0 rfl rfl rfl rfl)⟩) ?_
  refine Walk.val (G := Is (.pointer (some ⟨gm, 2, none⟩))) (stays_is _ _) rfl rfl (fun a w hm hd => ⟨wanted_plain rfl, st_fieldM 1 (by decide) rfl (hd.at_ 4 rfl rfl rfl rfl)⟩) ?_
  refine Walk.val (G := Is (.pointer (some ⟨gm, 2 + 256 * (c / 32), none⟩))) (stays_is _ _) rfl rfl (fun a w hm hd => ⟨wanted_plain rfl, st_idxL rfl (hd.at_ 5 rfl rfl rfl rfl) (hd.at_ 3 rfl rfl rfl rfl) (by have := HC.out; omega)⟩) ?_
  refine Walk.val (G := Is (.slice (some ⟨gm, 2 + 256 * (c / 32), none⟩) 256 256)) (stays_is _ _) rfl rfl (fun a w hm hd => ⟨wanted_plain rfl, st_sliceC rfl (hd.at_ 6 rfl rfl rfl rfl)⟩) ?_
  intro a9 V9 hm9 hall
  have f10 : Is (.slice (some ⟨gm, 2 + 256 * (c / 32), none⟩) 256 256) (a9.eval (.tmp 10)) V9 := hall 7 _ _ rfl rfl
  have hfr := hm9.frame
  simp only [List.take_succ_cons, List.take_zero, List.filterMap_cons, List.filterMap_nil, List.foldl_cons, List.foldl_nil] at hfr
  have hgV9 := GrownX.none2 hm9.grow
  have f10 : a9.eval (.tmp 10) = _ := f10
  rw [f10] at hfr
  generalize a9.eval (.tmp 3) = e3 at hfr
  generalize a9.eval (.tmp 4) = e4 at hfr
  generalize a9.eval (.tmp 5) = e5 at hfr
  generalize a9.eval (.tmp 6) = e6 at hfr
  generalize a9.eval (.tmp 7) = e7 at hfr
  generalize a9.eval (.tmp 8) = e8 at hfr
  generalize a9.eval (.tmp 9) = e9 at hfr
  clear hall hm9
  unfold wpList
  rw [hfr]
  clear hfr
  go_simp
  unfold wpList
  go_simp
  rename ∀ (a : Act) (w : World), Code.wp _ _ _ a w → _ => hK
  refine .inl (hK _ _ ?_)
  go_wp2
  go_ret
  exact ⟨rfl, hgV9⟩
end Go.Proofs.Ytibofgokdjbomaa

/-
  pack's model over this program: a token is put.
-/
namespace Go.Proofs.Ytibofgokdjbomaa
set_option maxRecDepth 1000000
open Go.RowKit

section
variable {o : Oper} {a : Act} {w : World}
theorem st_loadK {x : Operand} {g : Nat} {t : Tok} (h : o.op = .load 37 x) (hx : Is (.pointer (some ⟨g, 0, none⟩)) (a.eval x) w) (hr : Row w g 37 (tokC t)) : Runs (Is (tokV t)) o a w :=
  ⟨_, ex_load_row h g 37 _ _ hx hr Try.underlying37 rfl (by kernel_rfl), rfl⟩
theorem st_fieldT0 {x : Operand} {g : Nat} (h : o.op = .fieldAddr 37 x 0) (hx : Is (.pointer (some ⟨g, 0, none⟩)) (a.eval x) w) : Runs (Is (.pointer (some ⟨g, 0, none⟩))) o a w := by
  have hx' : a.eval x = .pointer (some ⟨g, 0, none⟩) := hx
  refine ⟨_, ?_, rfl⟩
  simp only [execOp, h, hx']
  kernel_rfl
theorem st_fieldT1 {x : Operand} {g : Nat} (h : o.op = .fieldAddr 37 x 1) (hx : Is (.pointer (some ⟨g, 0, none⟩)) (a.eval x) w) : Runs (Is (.pointer (some ⟨g, 1, none⟩))) o a w := by
  have hx' : a.eval x = .pointer (some ⟨g, 0, none⟩) := hx
  refine ⟨_, ?_, rfl⟩
  simp only [execOp, h, hx']
  kernel_rfl
end
/-- A token is being put. -/
structure PuS (w W : World) (g gm gt : Nat) (v0 vb : Option Nat) (S : Cst) (x : Kst) (t : Tok) : Prop where
  wt : Wt W g vb S
  mo : Mo W gm x
  tk : Row W gt 37 (tokC t)
  ne : gm ≠ g ∧ gt ≠ g ∧ gt ≠ gm ∧ vb ≠ some gm ∧ vb ≠ some gt
  wn : Wn [g, gm] w v0 W vb
section
variable {w W W' : World} {g gm gt : Nat} {v0 vb vb' : Option Nat} {S S' : Cst} {x : Kst} {t : Tok}
theorem PuS.grown0 (h : PuS w W g gm gt v0 vb S x t) (hg : W.grownBy W' none) : PuS w W' g gm gt v0 vb S x t := ⟨h.wt.grown0 hg, h.mo.grown0 hg, h.tk.grown0 hg, h.ne, h.wn.grown0 hg⟩
theorem PuS.step {L : List Nat} (h : PuS w W g gm gt v0 vb S x t) (ht : Wt W' g vb' S') (hm : Row W' gm 87 (chR (modR x.kind x.h) L)) (hn : Wn [g, gm] W vb W' vb') : PuS w W' g gm gt v0 vb' S' ⟨L, x.kind, x.h⟩ t := by
  obtain ⟨n1, n2, n3, n4, n5⟩ := h.ne
  have hrow : ∀ b, vb' = some b → vb = some b ∨ W.heap.size ≤ b := fun b hb => by
    rcases hn.row with e | ⟨k, e, hk⟩
    · rw [e] at hb; exact .inl hb
    · rw [e] at hb; cases hb; exact .inr hk
  refine ⟨ht, hm, h.tk.wn hn (by simp; exact ⟨n2, n3⟩) (fun e => n5 e.symm), ⟨n1, n2, n3, fun e => ?_, fun e => ?_⟩, h.wn.trans hn⟩
  · rcases hrow _ e with e2 | e2
    · exact n4 e2
    · have := h.mo.lt; omega
  · rcases hrow _ e with e2 | e2
    · exact n5 e2
    · have := h.tk.lt; omega
theorem PuS.even (h : PuS w W g gm gt v0 vb S x t) (ht : Wt W' g vb' S') (hn : Wn [g] W vb W' vb') : PuS w W' g gm gt v0 vb' S' x t := by
  obtain ⟨n1, n2, n3, n4, n5⟩ := h.ne
  exact h.step ht (Row.wn h.mo hn (by simpa using n1) (fun e => n4 e.symm)) (hn.mono (fun k hk => by simp at hk; simp [hk]))
end
/-- What a model's put leaves. -/
def PuOut (g gm : Nat) (v0 : Option Nat) (x : Kst) (t : Tok) (p : Cst × List Nat) (w : World) (e : Ending) (w' : World) : Prop :=
  e = .returned (.tuple #[]) ∧ ∃ vb', Wt w' g vb' p.1 ∧ Mo w' gm ⟨p.2, x.kind, x.h⟩ ∧ Wn [g, gm] w v0 w' vb' ∧ vb' ≠ some gm
set_option maxHeartbeats 8000000 in
theorem putM_at (g : Nat) (vb : Option Nat) (s : Cst) (gm : Nat) (x : Kst) (t : Tok) (w : World) (hw : Wt w g vb s) (hs : Okw s) (hl : s.out.length ≤ 700000000) (h : Mo w gm x) (hx : Okk x) (ht : right t = true) (hn : x.h.length ≤ 100000) (hne : gm ≠ g ∧ vb ≠ some gm) :
    Calls Try.prog 48 #[.pointer (some ⟨gm, 0, none⟩), .pointer (some ⟨g, 0, none⟩), tokV t] w (PuOut g gm vb x t (putT s x t) w) := by
  obtain ⟨r1, r2, r3, r4, r5, r6⟩ := right_len ht
  obtain ⟨gt, hgt⟩ : ∃ gt, w.heap.size = gt := ⟨_, rfl⟩
  obtain ⟨W1, hW1⟩ : ∃ W, w.alloc (.cells #[.int .u8 (t.lit.toNat : Int), .int .i64 t.len, .int .i64 t.back] 37) = W := ⟨_, rfl⟩
  have hg1 : w.grownBy W1 none := by rw [← hW1]; exact grown_alloc (grown_refl _ _) _
  have HP := Lib.hid (show PuS w W1 g gm gt vb vb s x t from ⟨hw.grown0 hg1, h.grown0 hg1, by rw [← hW1]; exact Row.newAt w _ (tokC t) hgt, ⟨hne.1, fun e => by have := hw.lt; omega, fun e => by have := h.lt; omega, hne.2, fun e => by have := hw.row_lt gt e; omega⟩, (Wn.refl _ _ _).grown0 hg1⟩)
  have HX := Lib.hid hx
  have HN := Lib.hid hn
  have HLT := Lib.hid (UInt8.toNat_lt t.lit)
  have HS := Lib.hid hs
  have HSL := Lib.hid hl
  have HR := Lib.hid (right_len ht)
  have HBIT := Lib.hid (fun W (hP : PuS w W g gm gt vb vb s x t) => bit_in (modR x.kind x.h) g vb s gm x.kind 87 x.L (kindN t : Int) W hP.wt hs.ok (by omega) hP.mo (kind_lt hx) hx.l ⟨hne.1, hne.2⟩)
  rw [show decide ((kindN t : Int) ≠ 0) = decide (0 < t.len) by unfold kindN; split <;> simp [*]] at HBIT
  have HB1 := Lib.hid (bitS_okw (decide (0 < t.len)) hs hx.l (kind_lt hx))
  have HB2 := Lib.hid ((bitS_len s x.L x.kind (decide (0 < t.len))).trans hx.len)
  have HB3 := Lib.hid (show (bitS s x.L x.kind (decide (0 < t.len))).1.out.length ≤ 700000001 by have := putS_len s (s.width / 2048 * x.L.getD x.kind 0) (decide (0 < t.len)); show (putS _ _ _).out.length ≤ _; omega)
  have HPT := Lib.hid (show putT s x t = putT s x t from rfl)
  unfold putT
  have hbt : ∀ b, decide (0 < t.len) = b → bitS s x.L x.kind b = bitS s x.L x.kind (decide (0 < t.len)) := fun b hb => by rw [hb]
  clear hw hs hl h hx ht hn hne hg1
  by_cases hz : 0 < t.len
  · rw [if_pos hz, hbt true (by simpa using hz)]
    clear hbt HPT
    have hk1 : kindN t = 1 := by unfold kindN; rw [if_pos hz]
    rw [hk1, show ((1 : Nat) : Int) = 1 from rfl] at HBIT
    obtain ⟨k, hk⟩ : ∃ k : Nat, t.back - 1 = (k : Int) := ⟨(t.back - 1).toNat, by have := r6 (by omega); omega⟩
    rw [hk, Int.toNat_natCast]
    have hk15 : k < 32768 := by omega
    generalize bitS s x.L x.kind (decide (0 < t.len)) = S1 at *
    have HB4 := Lib.hid (treeB_okw (t.len - 3) 2050 256 8 1 HB1.out.1 HB1.out.2 (by rw [HB2.out]; decide) (by decide))
    have HB5 := Lib.hid ((treeB_len (t.len - 3) 2050 8 1 S1.1 S1.2).1.trans HB2.out)
    have HB6 := Lib.hid (show (treeB S1.1 S1.2 2050 (t.len - 3) 8 1).1.out.length ≤ 700000009 by have := (treeB_len (t.len - 3) 2050 8 1 S1.1 S1.2).2; have := HB3.out; omega)
    have HTR := Lib.hid (fun W vb2 (hP : PuS w W g gm gt vb vb2 S1.1 ⟨S1.2, x.kind, x.h⟩ t) => tree_in (modR x.kind x.h) 2050 g vb2 S1.1 gm 87 S1.2 256 256 (t.len - 3) 8 W hP.wt HB1.out.1.ok (by have := HB3.out; omega) hP.mo (by rw [HB2.out]; decide) HB1.out.2 ⟨hP.ne.1, hP.ne.2.2.2.1⟩ (by decide) (by decide) (by decide) (by omega))
    generalize treeB S1.1 S1.2 2050 (t.len - 3) 8 1 = S2 at *
    have HB7 := Lib.hid (treeB_okw (nbits k : Int) 2306 16 4 1 HB4.out.1 HB4.out.2 (by rw [HB5.out]; decide) (by decide))
    have HB8 := Lib.hid (show (treeB S2.1 S2.2 2306 (nbits k : Int) 4 1).1.out.length ≤ 700000013 by have := (treeB_len (nbits k : Int) 2306 4 1 S2.1 S2.2).2; have := HB6.out; omega)
    have HK15 := Lib.hid (show nbits k ≤ 15 from nbits_le (k := 15) (by omega))
    have HTR2 := Lib.hid (fun W vb2 (hP : PuS w W g gm gt vb vb2 S2.1 ⟨S2.2, x.kind, x.h⟩ t) => tree_in (modR x.kind x.h) 2306 g vb2 S2.1 gm 87 S2.2 16 16 (nbits k : Int) 4 W hP.wt HB4.out.1.ok (by have := HB6.out; omega) hP.mo (by rw [HB5.out]; decide) HB4.out.2 ⟨hP.ne.1, hP.ne.2.2.2.1⟩ (by decide) (by decide) (by decide) (by have := HK15.out; omega))
    generalize treeB S2.1 S2.2 2306 (nbits k : Int) 4 1 = S3 at *
    have HEV := Lib.hid (fun W vb2 (hP : PuS w W g gm gt vb vb2 S3.1 ⟨S3.2, x.kind, x.h⟩ t) => even_at g vb2 S3.1 (k : Int) (nbits k - 1) W hP.wt HB7.out.1.ok (by have := HB8.out; omega) (by have := HK15.out; omega) (by omega))
    have HBL := Lib.hid (bitsLen_any k (by omega))
    have HBW := Lib.hid (below_any (nbits k) (by have := HK15.out; omega))
    generalize nbits k = m at *
    have HLN := Lib.hid (show -1000000000000000 ≤ t.len - 3 ∧ t.len - 3 ≤ 1000000000000000 by omega)
    have hwb : IntKind.i64.wrap (t.back - 1) = (k : Int) := by rw [IntKind.wrap_i64]; omega
    have hwu : IntKind.u64.wrap (k : Int) = (k : Int) := by rw [IntKind.wrap_u64]; omega
    unfold tokV
    go_enter Try.func48, Try.ntmps48
    go_wp2
    clear hW1 hgt
    refine wp_region_walk3 11 [] dis_nil (by kernel_rfl) (by kernel_rfl) (by kernel_rfl) ?_
    simp only [List.take_succ_cons, List.take_zero, List.drop_succ_cons, List.drop_zero]
    refine Walk.val (G := Is (.pointer (some ⟨g, 0, none⟩))) (stays_is _ _) rfl rfl (fun a w hm hd => ⟨wanted_plain rfl, st_move rfl (by rw [hm.outer 1 (by kernel_rfl)]; rfl)⟩) ?_
    refine Walk.val (G := Is (.pointer (some ⟨gm, 0, none⟩))) (stays_is _ _) rfl rfl (fun a w hm hd => ⟨wanted_plain rfl, st_move rfl (by rw [hm.outer 0 (by kernel_rfl)]; rfl)⟩) ?_
    refine Walk.val (G := Is (.pointer (some ⟨gm, 0, none⟩))) (stays_is _ _) rfl rfl (fun a w hm hd => ⟨wanted_plain rfl, st_move rfl (by rw [hm.outer 0 (by kernel_rfl)]; rfl)⟩) ?_
    refine Walk.val (G := Is (.pointer (some ⟨gm, 0, none⟩))) (stays_is _ _) rfl rfl (fun a w hm hd => ⟨wanted_plain rfl, st_nil rfl (hd.at_ 2 rfl rfl rfl rfl)⟩) ?_
    refine Walk.val (G := Is (.pointer (some ⟨gm, 2322, none⟩))) (stays_is _ _) rfl rfl (fun a w hm hd => ⟨wanted_plain rfl, st_fieldM 4 (by decide) rfl (hd.at_ 3 rfl rfl rfl rfl)⟩) ?_
    refine Walk.val (G := Is (.int .i64 (x.kind : Int))) (stays_is _ _) rfl rfl (fun a w hm hd => ⟨wanted_plain rfl, st_cell rfl (fun _ => by kernel_rfl) (hd.at_ 4 rfl rfl rfl rfl) ((HP.out.mo.grown0 (GrownX.none2 hm.grow)).kind HX.out.len)⟩) ?_
    refine Walk.val (G := Is (.pointer (some ⟨gm, 0, none⟩))) (stays_is _ _) rfl rfl (fun a w hm hd => ⟨wanted_plain rfl, st_nil rfl (hd.at_ 1 rfl rfl rfl rfl)⟩) ?_
    refine Walk.val (G := Is (.pointer (some ⟨gm, 0, none⟩))) (stays_is _ _) rfl rfl (fun a w hm hd => ⟨wanted_plain rfl, st_fieldM 0 (by decide) rfl (hd.at_ 6 rfl rfl rfl rfl)⟩) ?_
    refine Walk.val (G := Is (.pointer (some ⟨gm, x.kind, none⟩))) (stays_is _ _) rfl rfl (fun a w hm hd => ⟨wanted_plain rfl, st_idxK rfl (hd.at_ 7 rfl rfl rfl rfl) (hd.at_ 5 rfl rfl rfl rfl) (by have := HX.out.k; omega)⟩) ?_
    refine Walk.val (G := Is (tokV t)) (stays_is _ _) rfl rfl (fun a w hm hd => ⟨wanted_plain rfl, st_loadK rfl (by rw [hm.outer 5 (by kernel_rfl)]; rfl) (HP.out.tk.grown0 (GrownX.none2 hm.grow))⟩) ?_
    refine Walk.call (G := Is (.int .i64 (kindN t : Int))) (stays_is _ _) rfl 77 rfl (fun a w hm ha hd => ⟨wanted_plain rfl, _, ex_call1 Try.func77 (by kernel_rfl) (by kernel_rfl) rfl, by rw [show a.eval (.tmp 17) = _ from (hd.at_ 9 rfl rfl rfl rfl)]; exact Val.made (kindOf_any t w)⟩) ?_
    intro a9 V9 hm9 hall
    have f8 : Is (.pointer (some ⟨g, 0, none⟩)) (a9.eval (.tmp 8)) V9 := hall 0 _ _ rfl rfl
    have f16 : Is (.pointer (some ⟨gm, x.kind, none⟩)) (a9.eval (.tmp 16)) V9 := hall 8 _ _ rfl rfl
    have f18 : Is (.int .i64 (kindN t : Int)) (a9.eval (.tmp 18)) V9 := hall 10 _ _ rfl rfl
    have hfr := hm9.frame
    simp only [List.take_succ_cons, List.take_zero, List.filterMap_cons, List.filterMap_nil, List.foldl_cons, List.foldl_nil] at hfr
    have hgV9 := GrownX.none2 hm9.grow
    have f8 : a9.eval (.tmp 8) = _ := f8
    rw [f8] at hfr
    have f16 : a9.eval (.tmp 16) = _ := f16
    rw [f16] at hfr
    have f18 : a9.eval (.tmp 18) = _ := f18
    rw [f18] at hfr
    generalize a9.eval (.tmp 9) = e9 at hfr
    generalize a9.eval (.tmp 10) = e10 at hfr
    generalize a9.eval (.tmp 11) = e11 at hfr
    generalize a9.eval (.tmp 12) = e12 at hfr
    generalize a9.eval (.tmp 13) = e13 at hfr
    generalize a9.eval (.tmp 14) = e14 at hfr
    generalize a9.eval (.tmp 15) = e15 at hfr
    generalize a9.eval (.tmp 17) = e17 at hfr
    clear hall hm9
    unfold wpList
    rw [hfr]
    clear hfr
    go_simp
    refine .inl ((HBIT.out V9 (HP.out.grown0 hgV9)).mono ?_)
    rintro e w2 ⟨rfl, vb2, ht2, hm2, hn2⟩
    have HP2 := Lib.hid ((HP.out.grown0 hgV9).step ht2 hm2 hn2)
    clear ht2 hm2 hn2 HBIT hgV9
    have e0 := HP2.out.tk.cell (j := 0) rfl
    have e1 := HP2.out.tk.cell (j := 1) rfl
    have e2 := HP2.out.tk.cell (j := 2) rfl
    go_wp2_with fail
    refine (kindOf_any t w2).mono ?_
    rintro e w3 ⟨rfl, hg3⟩
    have HP3 := Lib.hid (HP2.out.grown0 hg3)
    clear hg3 HP2 e0 e1 e2
    rw [hk1]
    have q0 : (((1 : Nat) : Int) == 0) = false := rfl
    go_wp2
    refine wp_region_walk3 8 [] dis_nil (by kernel_rfl) (by kernel_rfl) (by kernel_rfl) ?_
    simp only [List.take_succ_cons, List.take_zero, List.drop_succ_cons, List.drop_zero]
    refine Walk.val (G := Is (.pointer (some ⟨g, 0, none⟩))) (stays_is _ _) rfl rfl (fun a w hm hd => ⟨wanted_plain rfl, st_move rfl (by rw [hm.outer 1 (by kernel_rfl)]; rfl)⟩) ?_
    refine Walk.val (G := Is (.pointer (some ⟨gm, 0, none⟩))) (stays_is _ _) rfl rfl (fun a w hm hd => ⟨wanted_plain rfl, st_move rfl (by rw [hm.outer 0 (by kernel_rfl)]; rfl)⟩) ?_
    refine Walk.val (G := Is (.pointer (some ⟨gm, 0, none⟩))) (stays_is _ _) rfl rfl (fun a w hm hd => ⟨wanted_plain rfl, st_nil rfl (hd.at_ 1 rfl rfl rfl rfl)⟩) ?_
    refine Walk.val (G := Is (.pointer (some ⟨gm, 2050, none⟩))) (stays_is _ _) rfl rfl (fun a w hm hd => ⟨wanted_plain rfl, st_fieldM 2 (by decide) rfl (hd.at_ 2 rfl rfl rfl rfl)⟩) ?_
    refine Walk.val (G := Is (.slice (some ⟨gm, 2050, none⟩) 256 256)) (stays_is _ _) rfl rfl (fun a w hm hd => ⟨wanted_plain rfl, st_sliceC rfl (hd.at_ 3 rfl rfl rfl rfl)⟩) ?_
    refine Walk.val (G := Is (.pointer (some ⟨gt, 1, none⟩))) (stays_is _ _) rfl rfl (fun a w hm hd => ⟨wanted_plain rfl, st_fieldT1 rfl (by rw [hm.outer 5 (by kernel_rfl)]; rfl)⟩) ?_
    refine Walk.val (G := Is (.int .i64 t.len)) (stays_is _ _) rfl rfl (fun a w hm hd => ⟨wanted_plain rfl, st_cell rfl (fun _ => by kernel_rfl) (hd.at_ 5 rfl rfl rfl rfl) ((HP3.out.tk.grown0 (GrownX.none2 hm.grow)).cell (j := 1) rfl)⟩) ?_
    refine Walk.val (G := Is (.int .i64 (t.len - 3))) (stays_is _ _) rfl rfl (fun a w hm hd => ⟨wanted_plain rfl, st_subi rfl (hd.at_ 6 rfl rfl rfl rfl) rfl rfl HLN.out⟩) ?_
    intro a8 V8 hm8 hall
    have f30 : Is (.pointer (some ⟨g, 0, none⟩)) (a8.eval (.tmp 30)) V8 := hall 0 _ _ rfl rfl
    have f34 : Is (.slice (some ⟨gm, 2050, none⟩) 256 256) (a8.eval (.tmp 34)) V8 := hall 4 _ _ rfl rfl
    have f37 : Is (.int .i64 (t.len - 3)) (a8.eval (.tmp 37)) V8 := hall 7 _ _ rfl rfl
    have hfr := hm8.frame
    simp only [List.take_succ_cons, List.take_zero, List.filterMap_cons, List.filterMap_nil, List.foldl_cons, List.foldl_nil] at hfr
    have hgV8 := GrownX.none2 hm8.grow
    have f30 : a8.eval (.tmp 30) = _ := f30
    rw [f30] at hfr
    have f34 : a8.eval (.tmp 34) = _ := f34
    rw [f34] at hfr
    have f37 : a8.eval (.tmp 37) = _ := f37
    rw [f37] at hfr
    generalize a8.eval (.tmp 31) = e31 at hfr
    generalize a8.eval (.tmp 32) = e32 at hfr
    generalize a8.eval (.tmp 33) = e33 at hfr
    generalize a8.eval (.tmp 35) = e35 at hfr
    generalize a8.eval (.tmp 36) = e36 at hfr
    clear hall hm8
    unfold wpList
    rw [hfr]
    clear hfr
    go_simp
    refine .inl ((HTR.out V8 vb2 (HP3.out.grown0 hgV8)).mono ?_)
    rintro e w4 ⟨rfl, vb4, ht4, hm4, hn4⟩
    have HP4 := Lib.hid ((HP3.out.grown0 hgV8).step ht4 hm4 hn4)
    clear ht4 hm4 hn4 HTR HP3 hgV8
    have e2 := HP4.out.tk.cell (j := 2) rfl
    go_wp2_with fail
    refine (HBL.out w4).mono ?_
    rintro e w5 ⟨rfl, hg5⟩
    have HP5 := Lib.hid (HP4.out.grown0 hg5)
    clear hg5 HP4 e2
    go_wp2_with fail
    refine (HTR2.out w5 vb4 HP5.out).mono ?_
    rintro e w6 ⟨rfl, vb6, ht6, hm6, hn6⟩
    have HP6 := Lib.hid (HP5.out.step ht6 hm6 hn6)
    clear ht6 hm6 hn6 HTR2 HP5
    go_wp2_with fail
    refine (HBW.out w6).mono ?_
    rintro e w7 ⟨rfl, hg7⟩
    have HP7 := Lib.hid (HP6.out.grown0 hg7)
    clear hg7 HP6
    go_wp2_with fail
    refine (HEV.out w7 vb6 HP7.out).mono ?_
    rintro e w8 ⟨rfl, vb8, ht8, hn8⟩
    have HP8 := Lib.hid (HP7.out.even ht8 hn8)
    clear ht8 hn8
    go_wp2
    refine bodyPost_end (results_none rfl _ _ _) rfl ?_
    exact ⟨rfl, vb8, HP8.out.wt, HP8.out.mo, HP8.out.wn, HP8.out.ne.2.2.2.1⟩
  · rw [if_neg hz, hbt false (by simpa using hz)]
    have hk0 : kindN t = 0 := by unfold kindN; rw [if_neg hz]
    rw [hk0, show ((0 : Nat) : Int) = 0 from rfl] at HBIT
    have HU := Lib.hid (upper_lt x.h)
    clear hbt HPT
    generalize bitS s x.L x.kind (decide (0 < t.len)) = S1 at *
    unfold tokV
    go_enter Try.func48, Try.ntmps48
    go_wp2
    clear hW1 hgt
    refine wp_region_walk3 11 [] dis_nil (by kernel_rfl) (by kernel_rfl) (by kernel_rfl) ?_
    simp only [List.take_succ_cons, List.take_zero, List.drop_succ_cons, List.drop_zero]
    refine Walk.val (G := Is (.pointer (some ⟨g, 0, none⟩))) (stays_is _ _) rfl rfl (fun a w hm hd => ⟨wanted_plain rfl, st_move rfl (by rw [hm.outer 1 (by kernel_rfl)]; rfl)⟩) ?_
    refine Walk.val (G := Is (.pointer (some ⟨gm, 0, none⟩))) (stays_is _ _) rfl rfl (fun a w hm hd => ⟨wanted_plain rfl, st_move rfl (by rw [hm.outer 0 (by kernel_rfl)]; rfl)⟩) ?_
    refine Walk.val (G := Is (.pointer (some ⟨gm, 0, none⟩))) (stays_is _ _) rfl rfl (fun a w hm hd => ⟨wanted_plain rfl, st_move rfl (by rw [hm.outer 0 (by kernel_rfl)]; rfl)⟩) ?_
    refine Walk.val (G := Is (.pointer (some ⟨gm, 0, none⟩))) (stays_is _ _) rfl rfl (fun a w hm hd => ⟨wanted_plain rfl, st_nil rfl (hd.at_ 2 rfl rfl rfl rfl)⟩) ?_
    refine Walk.val (G := Is (.pointer (some ⟨gm, 2322, none⟩))) (stays_is _ _) rfl rfl (fun a w hm hd => ⟨wanted_plain rfl, st_fieldM 4 (by decide) rfl (hd.at_ 3 rfl rfl rfl rfl)⟩) ?_
    refine Walk.val (G := Is (.int .i64 (x.kind : Int))) (stays_is _ _) rfl rfl (fun a w hm hd => ⟨wanted_plain rfl, st_cell rfl (fun _ => by kernel_rfl) (hd.at_ 4 rfl rfl rfl rfl) ((HP.out.mo.grown0 (GrownX.none2 hm.grow)).kind HX.out.len)⟩) ?_
    refine Walk.val (G := Is (.pointer (some ⟨gm, 0, none⟩))) (stays_is _ _) rfl rfl (fun a w hm hd => ⟨wanted_plain rfl, st_nil rfl (hd.at_ 1 rfl rfl rfl rfl)⟩) ?_
    refine Walk.val (G := Is (.pointer (some ⟨gm, 0, none⟩))) (stays_is _ _) rfl rfl (fun a w hm hd => ⟨wanted_plain rfl, st_fieldM 0 (by decide) rfl (hd.at_ 6 rfl rfl rfl rfl)⟩) ?_
    refine Walk.val (G := Is (.pointer (some ⟨gm, x.kind, none⟩))) (stays_is _ _) rfl rfl (fun a w hm hd => ⟨wanted_plain rfl, st_idxK rfl (hd.at_ 7 rfl rfl rfl rfl) (hd.at_ 5 rfl rfl rfl rfl) (by have := HX.out.k; omega)⟩) ?_
    refine Walk.val (G := Is (tokV t)) (stays_is _ _) rfl rfl (fun a w hm hd => ⟨wanted_plain rfl, st_loadK rfl (by rw [hm.outer 5 (by kernel_rfl)]; rfl) (HP.out.tk.grown0 (GrownX.none2 hm.grow))⟩) ?_
    refine Walk.call (G := Is (.int .i64 (kindN t : Int))) (stays_is _ _) rfl 77 rfl (fun a w hm ha hd => ⟨wanted_plain rfl, _, ex_call1 Try.func77 (by kernel_rfl) (by kernel_rfl) rfl, by rw [show a.eval (.tmp 17) = _ from (hd.at_ 9 rfl rfl rfl rfl)]; exact Val.made (kindOf_any t w)⟩) ?_
    intro a9 V9 hm9 hall
    have f8 : Is (.pointer (some ⟨g, 0, none⟩)) (a9.eval (.tmp 8)) V9 := hall 0 _ _ rfl rfl
    have f16 : Is (.pointer (some ⟨gm, x.kind, none⟩)) (a9.eval (.tmp 16)) V9 := hall 8 _ _ rfl rfl
    have f18 : Is (.int .i64 (kindN t : Int)) (a9.eval (.tmp 18)) V9 := hall 10 _ _ rfl rfl
    have hfr := hm9.frame
    simp only [List.take_succ_cons, List.take_zero, List.filterMap_cons, List.filterMap_nil, List.foldl_cons, List.foldl_nil] at hfr
    have hgV9 := GrownX.none2 hm9.grow
    have f8 : a9.eval (.tmp 8) = _ := f8
    rw [f8] at hfr
    have f16 : a9.eval (.tmp 16) = _ := f16
    rw [f16] at hfr
    have f18 : a9.eval (.tmp 18) = _ := f18
    rw [f18] at hfr
    generalize a9.eval (.tmp 9) = e9 at hfr
    generalize a9.eval (.tmp 10) = e10 at hfr
    generalize a9.eval (.tmp 11) = e11 at hfr
    generalize a9.eval (.tmp 12) = e12 at hfr
    generalize a9.eval (.tmp 13) = e13 at hfr
    generalize a9.eval (.tmp 14) = e14 at hfr
    generalize a9.eval (.tmp 15) = e15 at hfr
    generalize a9.eval (.tmp 17) = e17 at hfr
    clear hall hm9
    unfold wpList
    rw [hfr]
    clear hfr
    go_simp
    refine .inl ((HBIT.out V9 (HP.out.grown0 hgV9)).mono ?_)
    rintro e w2 ⟨rfl, vb2, ht2, hm2, hn2⟩
    have HP2 := Lib.hid ((HP.out.grown0 hgV9).step ht2 hm2 hn2)
    have HTR := Lib.hid (fun W (hP : PuS w W g gm gt vb vb2 S1.1 ⟨S1.2, x.kind, x.h⟩ t) => tree_in (modR x.kind x.h) (2 + 256 * upper x.h) g vb2 S1.1 gm 87 S1.2 256 256 (t.lit.toNat : Int) 8 W hP.wt HB1.out.1.ok (by have := HB3.out; omega) hP.mo (by rw [HB2.out]; have := HU.out; omega) HB1.out.2 ⟨hP.ne.1, hP.ne.2.2.2.1⟩ (by decide) (by decide) (by decide) (by have := HLT.out; omega))
    clear ht2 hm2 hn2 HBIT hgV9
    have e0 := HP2.out.tk.cell (j := 0) rfl
    have e1 := HP2.out.tk.cell (j := 1) rfl
    have e2 := HP2.out.tk.cell (j := 2) rfl
    go_wp2_with fail
    refine (kindOf_any t w2).mono ?_
    rintro e w3 ⟨rfl, hg3⟩
    have HP3 := Lib.hid (HP2.out.grown0 hg3)
    clear hg3 HP2 e0 e1 e2
    rw [hk0]
    have q0 : (((0 : Nat) : Int) == 0) = true := rfl
    go_wp2
    refine wp_region_walk3 6 [] dis_nil (by kernel_rfl) (by kernel_rfl) (by kernel_rfl) ?_
    simp only [List.take_succ_cons, List.take_zero, List.drop_succ_cons, List.drop_zero]
    refine Walk.val (G := Is (.pointer (some ⟨g, 0, none⟩))) (stays_is _ _) rfl rfl (fun a w hm hd => ⟨wanted_plain rfl, st_move rfl (by rw [hm.outer 1 (by kernel_rfl)]; rfl)⟩) ?_
    refine Walk.val (G := Is (.pointer (some ⟨gm, 0, none⟩))) (stays_is _ _) rfl rfl (fun a w hm hd => ⟨wanted_plain rfl, st_move rfl (by rw [hm.outer 0 (by kernel_rfl)]; rfl)⟩) ?_
    refine Walk.call (G := Is (.slice (some ⟨gm, 2 + 256 * upper x.h, none⟩) 256 256)) (stays_is _ _) rfl 74 rfl (fun a w hm ha hd => ⟨wanted_plain rfl, _, ex_call1 Try.func74 (by kernel_rfl) (by kernel_rfl) rfl, by rw [show a.eval (.tmp 24) = _ from (hd.at_ 1 rfl rfl rfl rfl)]; exact Val.made (treeM_any gm ⟨S1.2, x.kind, x.h⟩ w (HP3.out.mo.grown0 (GrownX.none2 hm.grow)) HB2.out HN.out)⟩) ?_
    refine Walk.val (G := Is (.pointer (some ⟨gt, 0, none⟩))) (stays_is _ _) rfl rfl (fun a w hm hd => ⟨wanted_plain rfl, st_fieldT0 rfl (by rw [hm.outer 5 (by kernel_rfl)]; rfl)⟩) ?_
    refine Walk.val (G := Is (.int .u8 (t.lit.toNat : Int))) (stays_is _ _) rfl rfl (fun a w hm hd => ⟨wanted_plain rfl, st_cell rfl (fun _ => by kernel_rfl) (hd.at_ 3 rfl rfl rfl rfl) ((HP3.out.tk.grown0 (GrownX.none2 hm.grow)).cell (j := 0) rfl)⟩) ?_
    refine Walk.val (G := Is (.int .i64 (t.lit.toNat : Int))) (stays_is _ _) rfl rfl (fun a w hm hd => ⟨wanted_plain rfl, st_conv8 rfl (hd.at_ 4 rfl rfl rfl rfl) HLT.out⟩) ?_
    intro a8 V8 hm8 hall
    have f23 : Is (.pointer (some ⟨g, 0, none⟩)) (a8.eval (.tmp 23)) V8 := hall 0 _ _ rfl rfl
    have f25 : Is (.slice (some ⟨gm, 2 + 256 * upper x.h, none⟩) 256 256) (a8.eval (.tmp 25)) V8 := hall 2 _ _ rfl rfl
    have f28 : Is (.int .i64 (t.lit.toNat : Int)) (a8.eval (.tmp 28)) V8 := hall 5 _ _ rfl rfl
    have hfr := hm8.frame
    simp only [List.take_succ_cons, List.take_zero, List.filterMap_cons, List.filterMap_nil, List.foldl_cons, List.foldl_nil] at hfr
    have hgV8 := GrownX.none2 hm8.grow
    have f23 : a8.eval (.tmp 23) = _ := f23
    rw [f23] at hfr
    have f25 : a8.eval (.tmp 25) = _ := f25
    rw [f25] at hfr
    have f28 : a8.eval (.tmp 28) = _ := f28
    rw [f28] at hfr
    generalize a8.eval (.tmp 24) = e24 at hfr
    generalize a8.eval (.tmp 26) = e26 at hfr
    generalize a8.eval (.tmp 27) = e27 at hfr
    clear hall hm8
    unfold wpList
    rw [hfr]
    clear hfr
    go_simp
    refine .inl ((HTR.out V8 (HP3.out.grown0 hgV8)).mono ?_)
    rintro e w4 ⟨rfl, vb4, ht4, hm4, hn4⟩
    have HP4 := Lib.hid ((HP3.out.grown0 hgV8).step ht4 hm4 hn4)
    clear ht4 hm4 hn4
    go_wp2
    refine bodyPost_end (results_none rfl _ _ _) rfl ?_
    exact ⟨rfl, vb4, HP4.out.wt, HP4.out.mo, HP4.out.wn, HP4.out.ne.2.2.2.1⟩
end Go.Proofs.Ytibofgokdjbomaa

/-
  pack's model over this program: a token is taken.
-/
namespace Go.Proofs.Ytibofgokdjbomaa
set_option maxRecDepth 1000000
open Go.RowKit

section
variable {o : Oper} {a : Act} {w : World}
theorem st_shlP2 {y : Operand} {B : Nat} (h : o.op = .binOp .shl 3 (.const (.int .i64 1)) y 3) (hy : Is (.int .i64 (B : Int)) (a.eval y) w) (hB : B ≤ 62) : Runs (Is (.int .i64 (2 ^ B))) o a w := by
  have hy' : a.eval y = .int .i64 (B : Int) := hy
  have hc : a.eval (.const (.int .i64 1)) = .int .i64 1 := rfl
  have hw : IntKind.i64.wrap ((2 : Int) ^ B) = 2 ^ B := by rw [wrap_pow B hB]; norm_cast
  refine ⟨_, ?_, rfl⟩
  simp only [execOp, h, hy', hc]
  simp [go_sem, hw]
theorem st_shr1 {x : Operand} {B q : Nat} (h : o.op = .binOp .shr 3 x (.const (.int .u64 1)) 108) (hx : Is (.int .i64 (2 ^ B)) (a.eval x) w) (hq : 2 ^ B / 2 = q) : Runs (Is (.int .i64 (q : Int))) o a w := by
  subst hq
  have hx' : a.eval x = .int .i64 (2 ^ B) := hx
  have hc : a.eval (.const (.int .u64 1)) = .int .u64 1 := rfl
  refine ⟨_, ?_, rfl⟩
  simp only [execOp, h, hx', hc]
  simp [go_sem]
end
theorem or_two (m k : Nat) (hm : m ≤ 15) (hk : k < 2 ^ (m - 1)) : bits .or .i64 ((2 ^ m / 2 : Nat) : Int) (k : Int) = ((2 ^ m / 2 + k : Nat) : Int) := by
  rcases m with _ | m
  · simp at hk
    subst hk
    rfl
  · simp only [Nat.add_sub_cancel] at hk
    have e : 2 ^ (m + 1) / 2 = 2 ^ m := by rw [Nat.pow_succ]; omega
    have h14 : 2 ^ m ≤ 2 ^ 14 := Nat.pow_le_pow_right (by decide) (by omega)
    rw [e]
    have hor : 2 ^ m ||| k = 2 ^ m + k := by
      have := Nat.two_pow_add_eq_or_of_lt hk 1
      rw [Nat.mul_one] at this
      exact this.symm
    show IntKind.i64.wrap ((BitVec.ofInt 64 ((2 ^ m : Nat) : Int) ||| BitVec.ofInt 64 (k : Int)).toNat : Int) = _
    rw [BitVec.toNat_or, show (BitVec.ofInt 64 ((2 ^ m : Nat) : Int)).toNat = 2 ^ m by rw [BitVec.toNat_ofInt]; omega, show (BitVec.ofInt 64 (k : Int)).toNat = k by rw [BitVec.toNat_ofInt]; omega, hor, IntKind.wrap_i64]
    omega
theorem grown_ahead {W W' : World} {g : Nat} (h : GrownX [g] W.drew W') (ha : W'.heap[g]? = W.heap[g]?) : W.grownBy W' none :=
  ⟨h.os, h.tape, h.output, h.size, fun k hk _ => by
    by_cases e : k = g
    · rw [e]; exact ha
    · exact h.block k hk (by simpa using e)⟩
theorem st_orN {o : Oper} {a : Act} {w : World} {x y : Operand} {p q r : Nat} (h : o.op = .binOp .or 3 x y 3) (hx : Is (.int .i64 (p : Int)) (a.eval x) w) (hy : Is (.int .i64 (q : Int)) (a.eval y) w) (e : bits .or .i64 (p : Int) (q : Int) = (r : Int)) : Runs (Is (.int .i64 (r : Int))) o a w := by
  have hx' : a.eval x = .int .i64 (p : Int) := hx
  have hy' : a.eval y = .int .i64 (q : Int) := hy
  refine ⟨_, ?_, rfl⟩
  simp only [execOp, h, hx', hy']
  simp [go_sem, e]
/-- A token is being taken. -/
structure TkS (w W : World) (g gm gt : Nat) (vb : Option Nat) (R : Rst) (x : Kst) : Prop where
  rs : Rs W g vb R
  mo : Mo W gm x
  tk : Row W gt 37 [.int .u8 0, .int .i64 0, .int .i64 0]
  ne : gm ≠ g ∧ gt ≠ g ∧ gt ≠ gm ∧ vb ≠ some gm ∧ vb ≠ some gt
  nw : w.heap.size ≤ gt
  wn : Wn [g, gm] w none W none
section
variable {w W W' : World} {g gm gt : Nat} {vb : Option Nat} {R R' : Rst} {x : Kst}
theorem TkS.grown0 (h : TkS w W g gm gt vb R x) (hg : W.grownBy W' none) : TkS w W' g gm gt vb R x := ⟨h.rs.grown0 hg, h.mo.grown0 hg, h.tk.grown0 hg, h.ne, h.nw, h.wn.grown0 hg⟩
theorem TkS.step {L : List Nat} (h : TkS w W g gm gt vb R x) (hr : Rs W' g vb R') (hm : Row W' gm 87 (chR (modR x.kind x.h) L)) (hn : Wn [g, gm] W none W' none) : TkS w W' g gm gt vb R' ⟨L, x.kind, x.h⟩ := by
  obtain ⟨n1, n2, n3, n4, n5⟩ := h.ne
  exact ⟨hr, hm, h.tk.wn hn (by simp; exact ⟨n2, n3⟩) (by simp), h.ne, h.nw, h.wn.trans hn⟩
theorem TkS.even (h : TkS w W g gm gt vb R x) (hr : Rs W' g vb R') (hg : W.grownBy W' (some g)) : TkS w W' g gm gt vb R' x := by
  obtain ⟨n1, n2, n3, n4, n5⟩ := h.ne
  exact ⟨hr, h.mo.grown hg (fun e => by cases e; exact n1 rfl), h.tk.grown hg (fun e => by cases e; exact n2 rfl), h.ne, h.nw, h.wn.grown hg (fun b e => by cases e; exact .inl (by simp))⟩
end
/-- What a model's take answers. -/
def TaOut (g gm : Nat) (vb : Option Nat) (x : Kst) (p : Tok × Rst × List Nat) (w : World) (e : Ending) (w' : World) : Prop :=
  e = .returned (tokV p.1) ∧ Rs w' g vb p.2.1 ∧ Mo w' gm ⟨p.2.2, x.kind, x.h⟩ ∧ Wn [g, gm] w none w' none
theorem TkS.done {w W W' : World} {g gm gt : Nat} {vb : Option Nat} {R : Rst} {x : Kst} (h : TkS w W g gm gt vb R x) (hg : W.grownBy W' (some gt)) : Rs W' g vb R ∧ Mo W' gm x ∧ Wn [g, gm] w none W' none := by
  obtain ⟨n1, n2, n3, n4, n5⟩ := h.ne
  have hw := h.wn
  refine ⟨h.rs.grown hg (fun e => by cases e; exact n2 rfl) (fun b hb e => by cases e; exact n5 hb), h.mo.grown hg (fun e => by cases e; exact n3 rfl), ⟨hg.os.trans hw.os, hg.tape.trans hw.tape, hg.output.trans hw.output, Nat.le_trans hw.size hg.size, fun b hb hS hv => ?_, .inl rfl⟩⟩
  have := h.nw
  exact (hg.block b (Nat.lt_of_lt_of_le hb hw.size) (fun e => by cases e; omega)).trans (hw.block b hb hS hv)
set_option maxHeartbeats 8000000 in
theorem takeM_at (g : Nat) (vb : Option Nat) (r : Rst) (gm : Nat) (x : Kst) (w : World) (hw : Rs w g vb r) (ho : Okr r) (h : Mo w gm x) (hx : Okk x) (hn : x.h.length ≤ 100000) (hne : gm ≠ g ∧ vb ≠ some gm) (hvl : ∀ b, vb = some b → b < w.heap.size) :
    Calls Try.prog 42 #[.pointer (some ⟨gm, 0, none⟩), .pointer (some ⟨g, 0, none⟩)] w (TaOut g gm vb x (takeT r x) w) := by
  obtain ⟨gt, hgt⟩ : ∃ gt, w.heap.size = gt := ⟨_, rfl⟩
  obtain ⟨W1, hW1⟩ : ∃ W, w.alloc (.cells #[.int .u8 0, .int .i64 0, .int .i64 0] 37) = W := ⟨_, rfl⟩
  have hg1 : w.grownBy W1 none := by rw [← hW1]; exact grown_alloc (grown_refl _ _) _
  have HP := Lib.hid (show TkS w W1 g gm gt vb r x from ⟨hw.grown0 hg1, h.grown0 hg1, by rw [← hW1]; exact Row.newAt w _ [.int .u8 0, .int .i64 0, .int .i64 0] hgt, ⟨hne.1, fun e => by have := hw.lt; omega, fun e => by have := h.lt; omega, hne.2, fun e => by have := hvl gt e; omega⟩, by omega, (Wn.refl _ _ _).grown0 hg1⟩)
  have HX := Lib.hid hx
  have HN := Lib.hid hn
  have HB1 := Lib.hid (bitR_ok (p := x.kind) ho hx.l (kind_lt hx))
  have HBIT := Lib.hid (fun W (hP : TkS w W g gm gt vb r x) => rbit_in (modR x.kind x.h) g vb r gm x.kind 87 x.L W hP.rs ho hP.mo (kind_lt hx) hx.l ⟨hne.1, hne.2⟩)
  have HXL := Lib.hid hx.len
  have HU := Lib.hid (upper_lt x.h)
  unfold takeT
  generalize bitR r x.L x.kind = S1 at *
  obtain ⟨b1, S1⟩ := S1
  unfold RBOutR at HBIT
  simp only at HB1 HBIT ⊢
  clear hw ho h hx hn hne hg1 hvl
  cases b1 with
  | false =>
    simp only [Bool.false_eq_true, ↓reduceIte]
    have HB2 := Lib.hid (treeRB_ok (2 + 256 * upper x.h) 256 8 1 HB1.out.1 HB1.out.2.1 (by rw [HB1.out.2.2, HXL.out]; have := HU.out; omega) (by decide))
    have HTR := Lib.hid (fun W (hP : TkS w W g gm gt vb S1.1 ⟨S1.2, x.kind, x.h⟩) => rtree_in (modR x.kind x.h) (2 + 256 * upper x.h) g vb S1.1 gm 87 S1.2 256 256 8 W hP.rs HB1.out.1 hP.mo (by rw [HB1.out.2.2, HXL.out]; have := HU.out; omega) HB1.out.2.1 ⟨hP.ne.1, hP.ne.2.2.2.1⟩ (by decide) (by decide) (by decide))
    have HTM := Lib.hid (fun W (hP : TkS w W g gm gt vb S1.1 ⟨S1.2, x.kind, x.h⟩) => treeM_any gm ⟨S1.2, x.kind, x.h⟩ W hP.mo (HB1.out.2.2.trans HXL.out) HN.out)
    simp only at HTM
    generalize treeRB S1.1 S1.2 (2 + 256 * upper x.h) 8 1 = S2 at *
    obtain ⟨d, hd⟩ : ∃ d, S2.1 - 256 = d := ⟨_, rfl⟩
    have HD := Lib.hid (show d < 256 ∧ ((S2.1 : Int) - ((2 ^ 8 : Nat) : Int)) = (d : Int) ∧ (UInt8.ofNat d).toNat = d by
      obtain ⟨_, _, _, h4, h5⟩ := HB2.out
      refine ⟨by omega, by omega, by rw [UInt8.toNat_ofNat']; omega⟩)
    have hwd : IntKind.u8.wrap (d : Int) = (d : Int) := by have := HD.out.1; rw [IntKind.wrap_u8]; omega
    have hmd : (d : Int) % 256 = (d : Int) := by have := HD.out.1; omega
    rw [hd]
    generalize upper x.h = uu at *
    clear hd
    go_enter Try.func42, Try.ntmps42
    go_wp2
    clear hW1 hgt
    refine wp_region_walk4 9 [] dis_nil (by kernel_rfl) (by kernel_rfl) (by kernel_rfl) ?_
    simp only [List.take_succ_cons, List.take_zero, List.drop_succ_cons, List.drop_zero]
    refine Walk.val (G := Is (.pointer (some ⟨g, 0, none⟩))) (stays_is _ _) rfl rfl (fun a w hm hd => ⟨wanted_plain rfl, st_move rfl (by rw [hm.outer 1 (by kernel_rfl)]; rfl)⟩) ?_
    refine Walk.val (G := Is (.pointer (some ⟨gm, 0, none⟩))) (stays_is _ _) rfl rfl (fun a w hm hd => ⟨wanted_plain rfl, st_move rfl (by rw [hm.outer 0 (by kernel_rfl)]; rfl)⟩) ?_
    refine Walk.val (G := Is (.pointer (some ⟨gm, 0, none⟩))) (stays_is _ _) rfl rfl (fun a w hm hd => ⟨wanted_plain rfl, st_move rfl (by rw [hm.outer 0 (by kernel_rfl)]; rfl)⟩) ?_
    refine Walk.val (G := Is (.pointer (some ⟨gm, 0, none⟩))) (stays_is _ _) rfl rfl (fun a w hm hd => ⟨wanted_plain rfl, st_nil rfl (hd.at_ 2 rfl rfl rfl rfl)⟩) ?_
    refine Walk.val (G := Is (.pointer (some ⟨gm, 2322, none⟩))) (stays_is _ _) rfl rfl (fun a w hm hd => ⟨wanted_plain rfl, st_fieldM 4 (by decide) rfl (hd.at_ 3 rfl rfl rfl rfl)⟩) ?_
    refine Walk.val (G := Is (.int .i64 (x.kind : Int))) (stays_is _ _) rfl rfl (fun a w hm hd => ⟨wanted_plain rfl, st_cell rfl (fun _ => by kernel_rfl) (hd.at_ 4 rfl rfl rfl rfl) ((HP.out.mo.grown0 (GrownX.none2 hm.grow)).kind HX.out.len)⟩) ?_
    refine Walk.val (G := Is (.pointer (some ⟨gm, 0, none⟩))) (stays_is _ _) rfl rfl (fun a w hm hd => ⟨wanted_plain rfl, st_nil rfl (hd.at_ 1 rfl rfl rfl rfl)⟩) ?_
    refine Walk.val (G := Is (.pointer (some ⟨gm, 0, none⟩))) (stays_is _ _) rfl rfl (fun a w hm hd => ⟨wanted_plain rfl, st_fieldM 0 (by decide) rfl (hd.at_ 6 rfl rfl rfl rfl)⟩) ?_
    refine Walk.val (G := Is (.pointer (some ⟨gm, x.kind, none⟩))) (stays_is _ _) rfl rfl (fun a w hm hd => ⟨wanted_plain rfl, st_idxK rfl (hd.at_ 7 rfl rfl rfl rfl) (hd.at_ 5 rfl rfl rfl rfl) (by have := HX.out.k; omega)⟩) ?_
    intro a9 V9 hm9 hall
    have f8 : Is (.pointer (some ⟨g, 0, none⟩)) (a9.eval (.tmp 8)) V9 := hall 0 _ _ rfl rfl
    have f16 : Is (.pointer (some ⟨gm, x.kind, none⟩)) (a9.eval (.tmp 16)) V9 := hall 8 _ _ rfl rfl
    have hfr := hm9.frame
    simp only [List.take_succ_cons, List.take_zero, List.filterMap_cons, List.filterMap_nil, List.foldl_cons, List.foldl_nil] at hfr
    have hgV9 := GrownX.none2 hm9.grow
    have f8 : a9.eval (.tmp 8) = _ := f8
    rw [f8] at hfr
    have f16 : a9.eval (.tmp 16) = _ := f16
    rw [f16] at hfr
    generalize a9.eval (.tmp 9) = e9 at hfr
    generalize a9.eval (.tmp 10) = e10 at hfr
    generalize a9.eval (.tmp 11) = e11 at hfr
    generalize a9.eval (.tmp 12) = e12 at hfr
    generalize a9.eval (.tmp 13) = e13 at hfr
    generalize a9.eval (.tmp 14) = e14 at hfr
    generalize a9.eval (.tmp 15) = e15 at hfr
    clear hall hm9
    unfold wpList
    rw [hfr]
    clear hfr
    go_simp
    refine .inl ((HBIT.out V9 (HP.out.grown0 hgV9)).mono ?_)
    rintro e w2 ⟨rfl, hr2, hm2, hn2⟩
    have HP2 := Lib.hid ((HP.out.grown0 hgV9).step hr2 hm2 hn2)
    clear hr2 hm2 hn2 HBIT hgV9
    have q0 : ((false.toNat : Int) == 0) = true := rfl
    simp only
    go_wp2_with fail
    refine (HTM.out w2 HP2.out).mono ?_
    rintro e w3 ⟨rfl, hg3⟩
    have HP3 := Lib.hid (HP2.out.grown0 hg3)
    clear hg3 HP2 HTM
    go_wp2_with fail
    refine (HTR.out w3 HP3.out).mono ?_
    rintro e w4 ⟨rfl, hr4, hm4, hn4⟩
    have HP4 := Lib.hid (HP3.out.step hr4 hm4 hn4)
    clear hr4 hm4 hn4 HTR HP3
    rw [HD.out.2.1]
    go_wp2_with (refine wpList_store_row _ rfl rfl _ _ 37 rfl gt 37 _ (tokC ⟨UInt8.ofNat d, 0, 0⟩) rfl (by rw [tokC]; simp only [HD.out.2.2]; rfl) HP4.out.tk rfl (tokC_one _) (by kernel_rfl) ?_; intro W' hr' hg')
    have HE := Lib.hid (HP4.out.done hg')
    have HR := Lib.hid hr'
    clear hr' hg'
    go_wp2
    refine bodyPost_ret (v := tokV ⟨UInt8.ofNat d, 0, 0⟩) ?_ rfl ⟨rfl, HE.out.1, HE.out.2.1, HE.out.2.2⟩
    exact results_row Try.results42 gt 37 (tokC ⟨UInt8.ofNat d, 0, 0⟩) _ rfl HR.out Try.underlying37 rfl (by kernel_rfl)
  | true =>
    simp only [↓reduceIte]
    have HB2 := Lib.hid (treeRB_ok 2050 256 8 1 HB1.out.1 HB1.out.2.1 (by rw [HB1.out.2.2, HXL.out]; decide) (by decide))
    have HB2L := Lib.hid (HB2.out.2.2.1.trans (HB1.out.2.2.trans HXL.out))
    have HTR := Lib.hid (fun W (hP : TkS w W g gm gt vb S1.1 ⟨S1.2, x.kind, x.h⟩) => rtree_in (modR x.kind x.h) 2050 g vb S1.1 gm 87 S1.2 256 256 8 W hP.rs HB1.out.1 hP.mo (by rw [HB1.out.2.2, HXL.out]; decide) HB1.out.2.1 ⟨hP.ne.1, hP.ne.2.2.2.1⟩ (by decide) (by decide) (by decide))
    generalize treeRB S1.1 S1.2 2050 8 1 = S2 at *
    have HB3 := Lib.hid (treeRB_ok 2306 16 4 1 HB2.out.1 HB2.out.2.1 (by rw [HB2L.out]; decide) (by decide))
    have HTR2 := Lib.hid (fun W (hP : TkS w W g gm gt vb S2.2.1 ⟨S2.2.2, x.kind, x.h⟩) => rtree_in (modR x.kind x.h) 2306 g vb S2.2.1 gm 87 S2.2.2 16 16 4 W hP.rs HB2.out.1 hP.mo (by rw [HB2L.out]; decide) HB2.out.2.1 ⟨hP.ne.1, hP.ne.2.2.2.1⟩ (by decide) (by decide) (by decide))
    generalize treeRB S2.2.1 S2.2.2 2306 4 1 = S3 at *
    obtain ⟨d, hd⟩ : ∃ d, S2.1 - 256 = d := ⟨_, rfl⟩
    obtain ⟨m, hm⟩ : ∃ m, S3.1 - 16 = m := ⟨_, rfl⟩
    have HD := Lib.hid (show d < 256 ∧ ((S2.1 : Int) - ((2 ^ 8 : Nat) : Int)) = (d : Int) by
      obtain ⟨_, _, _, h4, h5⟩ := HB2.out
      exact ⟨by omega, by omega⟩)
    have HM := Lib.hid (show m ≤ 15 ∧ ((S3.1 : Int) - ((2 ^ 4 : Nat) : Int)) = (m : Int) by
      obtain ⟨_, _, _, h4, h5⟩ := HB3.out
      exact ⟨by omega, by omega⟩)
    rw [hd, hm]
    have HEV := Lib.hid (fun W (hP : TkS w W g gm gt vb S3.2.1 ⟨S3.2.2, x.kind, x.h⟩) => reven_at g vb S3.2.1 (m - 1) W hP.rs HB3.out.1 (by have := HM.out.1; omega))
    have HEL := Lib.hid (evenR_in (m - 1) 0 HB3.out.1)
    generalize evenR S3.2.1 0 (m - 1) = S4 at *
    have HOR := Lib.hid (or_two m S4.1 HM.out.1 (by have := HEL.out.2.2; omega))
    have HBK := Lib.hid (back_lt HM.out.1 (show S4.1 < 2 ^ (m - 1) by have := HEL.out.2.2; omega))
    obtain ⟨bk, hbk⟩ : ∃ bk, 2 ^ m / 2 + S4.1 = bk := ⟨_, rfl⟩
    rw [hbk] at HOR HBK ⊢
    have hwl : IntKind.i64.wrap (3 + (d : Int)) = 3 + (d : Int) := by have := HD.out.1; rw [IntKind.wrap_i64]; omega
    have hwb : IntKind.i64.wrap (1 + (bk : Int)) = 1 + (bk : Int) := by have := HBK.out; rw [IntKind.wrap_i64]; omega
    obtain ⟨q, hq⟩ : ∃ q, 2 ^ m / 2 = q := ⟨_, rfl⟩
    have HQ := Lib.hid hq
    rw [hq] at HOR
    clear hd hm hbk hq
    go_enter Try.func42, Try.ntmps42
    go_wp2
    clear hW1 hgt
    refine wp_region_walk4 9 [] dis_nil (by kernel_rfl) (by kernel_rfl) (by kernel_rfl) ?_
    simp only [List.take_succ_cons, List.take_zero, List.drop_succ_cons, List.drop_zero]
    refine Walk.val (G := Is (.pointer (some ⟨g, 0, none⟩))) (stays_is _ _) rfl rfl (fun a w hm hd => ⟨wanted_plain rfl, st_move rfl (by rw [hm.outer 1 (by kernel_rfl)]; rfl)⟩) ?_
    refine Walk.val (G := Is (.pointer (some ⟨gm, 0, none⟩))) (stays_is _ _) rfl rfl (fun a w hm hd => ⟨wanted_plain rfl, st_move rfl (by rw [hm.outer 0 (by kernel_rfl)]; rfl)⟩) ?_
    refine Walk.val (G := Is (.pointer (some ⟨gm, 0, none⟩))) (stays_is _ _) rfl rfl (fun a w hm hd => ⟨wanted_plain rfl, st_move rfl (by rw [hm.outer 0 (by kernel_rfl)]; rfl)⟩) ?_
    refine Walk.val (G := Is (.pointer (some ⟨gm, 0, none⟩))) (stays_is _ _) rfl rfl (fun a w hm hd => ⟨wanted_plain rfl, st_nil rfl (hd.at_ 2 rfl rfl rfl rfl)⟩) ?_
    refine Walk.val (G := Is (.pointer (some ⟨gm, 2322, none⟩))) (stays_is _ _) rfl rfl (fun a w hm hd => ⟨wanted_plain rfl, st_fieldM 4 (by decide) rfl (hd.at_ 3 rfl rfl rfl rfl)⟩) ?_
    refine Walk.val (G := Is (.int .i64 (x.kind : Int))) (stays_is _ _) rfl rfl (fun a w hm hd => ⟨wanted_plain rfl, st_cell rfl (fun _ => by kernel_rfl) (hd.at_ 4 rfl rfl rfl rfl) ((HP.out.mo.grown0 (GrownX.none2 hm.grow)).kind HX.out.len)⟩) ?_
    refine Walk.val (G := Is (.pointer (some ⟨gm, 0, none⟩))) (stays_is _ _) rfl rfl (fun a w hm hd => ⟨wanted_plain rfl, st_nil rfl (hd.at_ 1 rfl rfl rfl rfl)⟩) ?_
    refine Walk.val (G := Is (.pointer (some ⟨gm, 0, none⟩))) (stays_is _ _) rfl rfl (fun a w hm hd => ⟨wanted_plain rfl, st_fieldM 0 (by decide) rfl (hd.at_ 6 rfl rfl rfl rfl)⟩) ?_
    refine Walk.val (G := Is (.pointer (some ⟨gm, x.kind, none⟩))) (stays_is _ _) rfl rfl (fun a w hm hd => ⟨wanted_plain rfl, st_idxK rfl (hd.at_ 7 rfl rfl rfl rfl) (hd.at_ 5 rfl rfl rfl rfl) (by have := HX.out.k; omega)⟩) ?_
    intro a9 V9 hm9 hall
    have f8 : Is (.pointer (some ⟨g, 0, none⟩)) (a9.eval (.tmp 8)) V9 := hall 0 _ _ rfl rfl
    have f16 : Is (.pointer (some ⟨gm, x.kind, none⟩)) (a9.eval (.tmp 16)) V9 := hall 8 _ _ rfl rfl
    have hfr := hm9.frame
    simp only [List.take_succ_cons, List.take_zero, List.filterMap_cons, List.filterMap_nil, List.foldl_cons, List.foldl_nil] at hfr
    have hgV9 := GrownX.none2 hm9.grow
    have f8 : a9.eval (.tmp 8) = _ := f8
    rw [f8] at hfr
    have f16 : a9.eval (.tmp 16) = _ := f16
    rw [f16] at hfr
    generalize a9.eval (.tmp 9) = e9 at hfr
    generalize a9.eval (.tmp 10) = e10 at hfr
    generalize a9.eval (.tmp 11) = e11 at hfr
    generalize a9.eval (.tmp 12) = e12 at hfr
    generalize a9.eval (.tmp 13) = e13 at hfr
    generalize a9.eval (.tmp 14) = e14 at hfr
    generalize a9.eval (.tmp 15) = e15 at hfr
    clear hall hm9
    unfold wpList
    rw [hfr]
    clear hfr
    go_simp
    refine .inl ((HBIT.out V9 (HP.out.grown0 hgV9)).mono ?_)
    rintro e w2 ⟨rfl, hr2, hm2, hn2⟩
    have HP2 := Lib.hid ((HP.out.grown0 hgV9).step hr2 hm2 hn2)
    clear hr2 hm2 hn2 HBIT hgV9
    have q0 : ((true.toNat : Int) == 0) = false := rfl
    simp only
    go_wp2_with fail
    refine (HTR.out w2 HP2.out).mono ?_
    rintro e w4 ⟨rfl, hr4, hm4, hn4⟩
    have HP4 := Lib.hid (HP2.out.step hr4 hm4 hn4)
    clear hr4 hm4 hn4 HTR HP2
    rw [HD.out.2]
    go_wp2_with fail
    refine (HTR2.out w4 HP4.out).mono ?_
    rintro e w5 ⟨rfl, hr5, hm5, hn5⟩
    have HP5 := Lib.hid (HP4.out.step hr5 hm5 hn5)
    clear hr5 hm5 hn5 HTR2 HP4
    rw [HM.out.2]
    go_wp2
    refine wp_region_walk3 8 [(6, g)] (dis_one 6 g) (by kernel_rfl) (by kernel_rfl) (by kernel_rfl) ?_
    simp only [List.take_succ_cons, List.take_zero, List.drop_succ_cons, List.drop_zero]
    refine Walk.val (G := Is (.int .i64 (m : Int))) (stays_is _ _) rfl rfl (fun a w hm hd => ⟨wanted_plain rfl, st_move rfl (by rw [hm.outer 6 (by kernel_rfl)]; rfl)⟩) ?_
    refine Walk.val (G := Is (.int .i64 (2 ^ m))) (stays_is _ _) rfl rfl (fun a w hm hd => ⟨wanted_plain rfl, st_shlP2 rfl (hd.at_ 0 rfl rfl rfl rfl) (by have := HM.out; omega)⟩) ?_
    refine Walk.val (G := Is (.int .i64 (q : Int))) (stays_is _ _) rfl rfl (fun a w hm hd => ⟨wanted_plain rfl, st_shr1 rfl (hd.at_ 1 rfl rfl rfl rfl) HQ.out⟩) ?_
    refine Walk.val (G := Is (.pointer (some ⟨g, 0, none⟩))) (stays_is _ _) rfl rfl (fun a w hm hd => ⟨wanted_plain rfl, st_move rfl (by rw [hm.outer 1 (by kernel_rfl)]; rfl)⟩) ?_
    refine Walk.val (G := Is (.int .i64 (m : Int))) (stays_is _ _) rfl rfl (fun a w hm hd => ⟨wanted_plain rfl, st_move rfl (by rw [hm.outer 6 (by kernel_rfl)]; rfl)⟩) ?_
    refine Walk.call (G := Is (.int .i64 ((m - 1 : Nat) : Int))) (stays_is _ _) rfl 76 rfl (fun a w hm ha hd => ⟨wanted_plain rfl, _, ex_call1 Try.func76 (by kernel_rfl) (by kernel_rfl) rfl, by rw [show a.eval (.tmp 42) = _ from (hd.at_ 4 rfl rfl rfl rfl)]; exact Val.made (below_any m (by have := HM.out; omega) w)⟩) ?_
    refine Walk.call (G := fun v W => v = .int .i64 (S4.1 : Int) ∧ TkS w W g gm gt vb S4.2 ⟨S3.2.2, x.kind, x.h⟩) (fun i hi v W W' h hg => ⟨h.1, h.2.grown0 (by rw [show rowAt [(6, g)] i = none by simp [rowAt]; omega] at hg; exact hg)⟩) rfl 75 rfl (fun a w hm ha hd => ⟨wanted_plain rfl, _, ex_call2 Try.func75 (by kernel_rfl) (by kernel_rfl) rfl, by
      rw [show a.eval (.tmp 41) = _ from (hd.at_ 3 rfl rfl rfl rfl), show a.eval (.tmp 43) = _ from (hd.at_ 5 rfl rfl rfl rfl)]
      have hT := HP5.out.grown0 (grown_ahead hm.grow (ha g rfl HP5.out.rs.lt))
      refine (HEV.out w hT).mono ?_
      rintro e w6 ⟨rfl, hr6, hg6⟩
      exact ⟨_, rfl, hg6, rfl, hT.even hr6 hg6⟩⟩) ?_
    refine Walk.val (G := Is (.int .i64 (bk : Int))) (stays_is _ _) rfl rfl (fun a w hm hd => ⟨wanted_plain rfl, st_orN rfl (hd.at_ 2 rfl rfl rfl rfl) (hd.at_ 6 rfl rfl rfl rfl).1 HOR.out⟩) ?_
    intro a8 V8 hm8 hall
    have f45 : Is (.int .i64 (bk : Int)) (a8.eval (.tmp 45)) V8 := hall 7 _ _ rfl rfl
    have HP6 := Lib.hid (show TkS w V8 g gm gt vb S4.2 ⟨S3.2.2, x.kind, x.h⟩ from (hall 6 _ _ rfl rfl).2)
    have hfr := hm8.frame
    simp only [List.take_succ_cons, List.take_zero, List.filterMap_cons, List.filterMap_nil, List.foldl_cons, List.foldl_nil] at hfr
    have f45 : a8.eval (.tmp 45) = _ := f45
    rw [f45] at hfr
    generalize a8.eval (.tmp 38) = e38 at hfr
    generalize a8.eval (.tmp 39) = e39 at hfr
    generalize a8.eval (.tmp 40) = e40 at hfr
    generalize a8.eval (.tmp 41) = e41 at hfr
    generalize a8.eval (.tmp 42) = e42 at hfr
    generalize a8.eval (.tmp 43) = e43 at hfr
    generalize a8.eval (.tmp 44) = e44 at hfr
    clear hall hm8
    unfold wpList
    rw [hfr]
    clear hfr
    go_simp
    unfold wpList
    go_simp
    rename ∀ (a : Act) (w : World), Code.wp _ _ _ a w → _ => hK
    refine .inl (hK _ _ ?_)
    go_wp2_with (refine wpList_store_row _ rfl rfl _ _ 37 rfl gt 37 _ (tokC ⟨0, 3 + (d : Int), 1 + (bk : Int)⟩) rfl rfl HP6.out.tk rfl (tokC_one _) (by kernel_rfl) ?_; intro W' hr' hg')
    have HE := Lib.hid (HP6.out.done hg')
    have HR := Lib.hid hr'
    clear hr' hg'
    go_wp2
    refine bodyPost_ret (v := tokV ⟨0, 3 + (d : Int), 1 + (bk : Int)⟩) ?_ rfl ⟨rfl, HE.out.1, HE.out.2.1, HE.out.2.2⟩
    exact results_row Try.results42 gt 37 (tokC ⟨0, 3 + (d : Int), 1 + (bk : Int)⟩) _ rfl HR.out Try.underlying37 rfl (by kernel_rfl)
end Go.Proofs.Ytibofgokdjbomaa

/-
  A model at its beginning: all its cells are nought.
-/
namespace Go.Proofs.Ytibofgokdjbomaa
set_option maxRecDepth 1000000
open Go.RowKit

/-- A cell of a model at the beginning, by its place. -/
def zeroAt (i : Nat) : Value := if i < 2322 then .int .i16 0 else if i = 2322 then .int .i64 0 else if i < 35091 then .int .u8 0 else .int .i64 0
def zeros : Nat → Nat → List Value
  | _, 0 => []
  | s, k + 1 => zeroAt s :: zeros (s + 1) k
theorem zeros_app : ∀ (a b s : Nat), zeros s (a + b) = zeros s a ++ zeros (s + a) b
  | 0, b, s => by simp [zeros]
  | a + 1, b, s => by
    rw [show a + 1 + b = (a + b) + 1 by omega, zeros, zeros, zeros_app a b (s + 1), List.cons_append, show s + 1 + a = s + (a + 1) by omega]
theorem zeros_same (v : Value) : ∀ (k s : Nat), (∀ i, s ≤ i → i < s + k → zeroAt i = v) → zeros s k = List.replicate k v
  | 0, _, _ => rfl
  | k + 1, s, h => by
    rw [zeros, h s (Nat.le_refl _) (by omega), zeros_same v k (s + 1) (fun i h1 h2 => h i (by omega) (by omega)), List.replicate_succ]
theorem chV_rep (n : Nat) : chV (List.replicate n 1024) = List.replicate n (.int .i16 0) := by
  unfold chV
  rw [List.map_replicate]
  rfl
theorem bytesV_rep (n : Nat) : bytesV (List.replicate n 0) = List.replicate n (.int .u8 0) := by
  unfold bytesV
  rw [List.map_replicate]
  rfl
theorem zeros_parts (n m : Nat) (hn : n = 2322) (hm : m = 32768) : zeros 0 (n + (1 + (m + 1))) = List.replicate n (.int .i16 0) ++ (.int .i64 0 :: (List.replicate m (.int .u8 0) ++ [.int .i64 0])) := by
  rw [zeros_app, zeros_app, zeros_app]
  rw [zeros_same (.int .i16 0) n 0 (fun i _ h => by unfold zeroAt; rw [if_pos (by omega)]), zeros_same (.int .u8 0) m _ (fun i h1 h2 => by unfold zeroAt; rw [if_neg (by omega), if_neg (by omega), if_pos (by omega)])]
  have e1 : zeros (0 + n) 1 = [.int .i64 0] := by
    show [zeroAt (0 + n)] = _
    unfold zeroAt
    rw [if_neg (by omega), if_pos (by omega)]
  have e2 : zeros (0 + n + 1 + m) 1 = [.int .i64 0] := by
    show [zeroAt (0 + n + 1 + m)] = _
    unfold zeroAt
    rw [if_neg (by omega), if_neg (by omega), if_neg (by omega)]
  rw [e1, e2]
  rfl
theorem modR_none (m : Nat) (hm : m = 32768) : modR 0 [] = .int .i64 0 :: (List.replicate m (.int .u8 0) ++ [.int .i64 0]) := by
  have : ringB [] = List.replicate m 0 := by rw [hm]; unfold ringB ringFrom; rfl
  unfold modR
  rw [this, bytesV_rep]
  rfl
theorem zeros_all : zeros 0 35092 = chR (modR 0 []) (List.replicate 2322 1024) := by
  have h := zeros_parts 2322 32768 rfl rfl
  unfold chR
  rw [modR_none 32768 rfl, chV_rep]
  exact h
theorem zeroModel : Try.zeroCells87.toList = zeros 0 35092 := by kernel_rfl
end Go.Proofs.Ytibofgokdjbomaa
