/-
  The law PackPacks, walked.
-/
import Derived.Test.YtibofgokdjbomaaPkAwake
import Derived.Test.YtibofgokdjbomaaPkRpack
import Derived.Test.YtibofgokdjbomaaStepOps
namespace Go.Proofs.Ytibofgokdjbomaa
set_option maxRecDepth 1000000
open Go.RowKit

section
variable {o : Oper} {a : Act} {w : World}
theorem st_eqe {x y : Operand} {p : Int} (h : o.op = .binOp .eql 24 x y 24) (hx : Is (.int .i64 p) (a.eval x) w) (hy : Is (.int .i64 p) (a.eval y) w) : Runs (Is (.bool true)) o a w := by
  have hx' : a.eval x = .int .i64 p := hx
  have hy' : a.eval y = .int .i64 p := hy
  refine ⟨_, ?_, rfl⟩
  simp only [execOp, h, hx', hy']
  simp [go_sem]
end
set_option maxHeartbeats 8000000 in
theorem packPacks_walk (A : Option Addr) (n c : Nat) (b : List UInt8) (win : Int) (w : World) (hb : Rd w (.slice A n c) (bytesV b)) :
    Calls Try.prog 3 #[.slice A n c, .int .i64 win] w (Awake w) := by
  have hbn : b.length = n := by have := hb.len.1; rwa [bytesV_len] at this
  by_cases h1 : 300 < n ∧ n ≤ 65536
  · have hd1 : decide (300 < (n : Int)) = true := by simp; omega
    have hd2 : decide ((n : Int) ≤ 65536) = true := by simp; omega
    clear hb hbn
    go_enter Try.func3, Try.ntmps3
    go_wp2_with (go_at_call 11; refine (awake_any _).mono ?_; rintro e w9 ⟨rfl, hg9⟩)
    go_ret
    exact ⟨rfl, hg9⟩
  have hc : (decide (300 < (n : Int)) = false ∧ n ≤ 300) ∨ (decide (300 < (n : Int)) = true ∧ decide ((n : Int) ≤ 65536) = false ∧ 65536 < n) := by
    by_cases h : 300 < n
    · exact .inr ⟨by simp; omega, by simp; omega, by omega⟩
    · exact .inl ⟨by simp; omega, by omega⟩
  by_cases hq : win < 1 ∨ 32768 < win
  · have HPA := Lib.hid (pack_any _ b win w hb)
    rw [show packR b win = ([], 1) by unfold packR; rw [if_pos hq]] at HPA
    have hq' : decide (win < 1) = true ∨ (decide (win < 1) = false ∧ decide (32768 < win) = true) := by
      by_cases h : win < 1
      · exact .inl (by simpa using h)
      · exact .inr ⟨by simpa using h, by simp; omega⟩
    clear hb hbn h1 hq
    rcases hc with ⟨hd1, -⟩ | ⟨hd1, hd1', -⟩
    · rcases hq' with hq1 | ⟨hq1, hq2⟩
      · skip
        go_enter Try.func3, Try.ntmps3
        go_wp2_with fail
        refine HPA.out.mono ?_
        rintro e w1 ⟨u1, rfl, hr1, hg1⟩
        obtain ⟨A1, c1, rfl⟩ := hr1.form
        have HG1 := Lib.hid hg1
        clear hr1 hg1
        rw [show (bytesV []).length = 0 from rfl]
        go_wp2_with (go_at_call 11; refine (awake_any _).mono ?_; rintro e w9 ⟨rfl, hg9⟩)
        go_ret
        exact ⟨rfl, HG1.out.trans hg9⟩
      · skip
        go_enter Try.func3, Try.ntmps3
        go_wp2_with fail
        refine HPA.out.mono ?_
        rintro e w1 ⟨u1, rfl, hr1, hg1⟩
        obtain ⟨A1, c1, rfl⟩ := hr1.form
        have HG1 := Lib.hid hg1
        clear hr1 hg1
        rw [show (bytesV []).length = 0 from rfl]
        go_wp2_with (go_at_call 11; refine (awake_any _).mono ?_; rintro e w9 ⟨rfl, hg9⟩)
        go_ret
        exact ⟨rfl, HG1.out.trans hg9⟩
    · rcases hq' with hq1 | ⟨hq1, hq2⟩
      · skip
        go_enter Try.func3, Try.ntmps3
        go_wp2_with fail
        refine HPA.out.mono ?_
        rintro e w1 ⟨u1, rfl, hr1, hg1⟩
        obtain ⟨A1, c1, rfl⟩ := hr1.form
        have HG1 := Lib.hid hg1
        clear hr1 hg1
        rw [show (bytesV []).length = 0 from rfl]
        go_wp2_with (go_at_call 11; refine (awake_any _).mono ?_; rintro e w9 ⟨rfl, hg9⟩)
        go_ret
        exact ⟨rfl, HG1.out.trans hg9⟩
      · skip
        go_enter Try.func3, Try.ntmps3
        go_wp2_with fail
        refine HPA.out.mono ?_
        rintro e w1 ⟨u1, rfl, hr1, hg1⟩
        obtain ⟨A1, c1, rfl⟩ := hr1.form
        have HG1 := Lib.hid hg1
        clear hr1 hg1
        rw [show (bytesV []).length = 0 from rfl]
        go_wp2_with (go_at_call 11; refine (awake_any _).mono ?_; rintro e w9 ⟨rfl, hg9⟩)
        go_ret
        exact ⟨rfl, HG1.out.trans hg9⟩
  have hq1 : decide (win < 1) = false := by simp; omega
  have hq2 : decide (32768 < win) = false := by simp; omega
  rcases hc with ⟨hd1, hn3⟩ | ⟨hd1, hd1', hn6⟩
  case inr =>
    have HPA := Lib.hid (pack_any _ b win w hb)
    rw [show packR b win = ([], 7) by unfold packR; rw [if_neg hq, if_pos (by omega)]] at HPA
    have hd6 : decide (65536 < (n : Int)) = true := by simp; omega
    clear hb hbn h1 hq hn6
    go_enter Try.func3, Try.ntmps3
    go_wp2_with fail
    refine HPA.out.mono ?_
    rintro e w1 ⟨u1, rfl, hr1, hg1⟩
    obtain ⟨A1, c1, rfl⟩ := hr1.form
    have HG1 := Lib.hid hg1
    clear hr1 hg1
    rw [show (bytesV []).length = 0 from rfl]
    go_wp2_with (go_at_call 11; refine (awake_any _).mono ?_; rintro e w9 ⟨rfl, hg9⟩)
    go_ret
    exact ⟨rfl, HG1.out.trans hg9⟩
  have hd6 : decide (65536 < (n : Int)) = false := by simp; omega
  have HPA := Lib.hid (pack_any _ b win w hb)
  rw [pack_in b win (by omega) (by omega)] at HPA
  have HB := Lib.hid hb
  have HC := Lib.hid (fun (v : Value) (W : World) (h : IsB b v W) => (refPack_any v b win W h (by omega) (by omega)).mono fun _ _ ⟨u, h1, h2, h3⟩ => (⟨u, h1, h3, h2⟩ : ∃ u, _ = Ending.returned u ∧ W.grownBy _ none ∧ IsB (packM b win) u _))
  generalize packM b win = PX at *
  clear hb h1 hq hn3
  go_enter Try.func3, Try.ntmps3
  go_wp2_with fail
  refine HPA.out.mono ?_
  rintro e w1 ⟨u1, rfl, hr1, hg1⟩
  have D1 := Lib.hid hr1
  have D0 := Lib.hid (HB.out.grown0 hg1)
  have HG1 := Lib.hid hg1
  clear hr1 hg1 HPA
  go_wp2
  refine wp_region_steps none (by kernel_rfl) (by kernel_rfl) (by kernel_rfl) ?_
  refine Steps.val (G := Is (.int .i64 (0))) (lasts_is _) rfl (fun a w hm hd => ⟨wanted_plain rfl, st_move rfl (by rw [hm.outer 6 (by kernel_rfl)]; rfl)⟩) ?_
  refine Steps.val (G := Is (.bool true)) (lasts_is _) rfl (fun a w hm hd => ⟨wanted_plain rfl, st_eqe rfl (hd.at_ 0 rfl rfl rfl) rfl⟩) ?_
  refine Steps.val (G := Is (.bool true)) (lasts_is _) rfl (fun a w hm hd => ⟨wanted_plain rfl, st_move rfl (hd.at_ 1 rfl rfl rfl)⟩) ?_
  refine Steps.val (G := IsB (PX)) (lasts_bytes _) rfl (fun a w hm hd => ⟨wanted_at rfl rfl (hd.at_ 2 rfl rfl rfl), st_move rfl (by rw [hm.outer 5 (by kernel_rfl)]; exact D1.out.grown0 hm.grow)⟩) ?_
  refine Steps.val (G := Is (.string ⟨(PX).toArray⟩)) (lasts_is _) rfl (fun a w hm hd => ⟨wanted_at rfl rfl (hd.at_ 2 rfl rfl rfl), st_str rfl (hd.at_ 3 rfl rfl rfl)⟩) ?_
  refine Steps.val (G := IsB (b)) (lasts_bytes _) rfl (fun a w hm hd => ⟨wanted_at rfl rfl (hd.at_ 2 rfl rfl rfl), st_move rfl (by rw [hm.outer 0 (by kernel_rfl)]; exact D0.out.grown0 hm.grow)⟩) ?_
  refine Steps.val (G := Is (.int .i64 (win))) (lasts_is _) rfl (fun a w hm hd => ⟨wanted_at rfl rfl (hd.at_ 2 rfl rfl rfl), st_move rfl (by rw [hm.outer 1 (by kernel_rfl)]; rfl)⟩) ?_
  refine Steps.call (G := IsB (PX)) (lasts_bytes _) rfl 13 (fun a w hm hd => ⟨wanted_at rfl rfl (hd.at_ 2 rfl rfl rfl), _, ex_call2 Try.func13 (by kernel_rfl) (by kernel_rfl) rfl, by
    have h0 : IsB (b) (a.eval (.tmp 58)) w := (hd.at_ 5 rfl rfl rfl)
    rw [show a.eval (.tmp 59) = _ from (hd.at_ 6 rfl rfl rfl)]
    exact HC.out _ w h0⟩) ?_
  refine Steps.val (G := Is (.string ⟨(PX).toArray⟩)) (lasts_is _) rfl (fun a w hm hd => ⟨wanted_at rfl rfl (hd.at_ 2 rfl rfl rfl), st_str rfl (hd.at_ 7 rfl rfl rfl)⟩) ?_
  refine Steps.val (G := Is (.bool true)) (lasts_is _) rfl (fun a w hm hd => ⟨wanted_at rfl rfl (hd.at_ 2 rfl rfl rfl), st_eqs rfl (hd.at_ 4 rfl rfl rfl) (hd.at_ 8 rfl rfl rfl) rfl⟩) ?_
  refine Steps.val (G := Is (.bool true)) (lasts_is _) rfl (fun a w hm hd => ⟨wanted_plain rfl, st_pick rfl (hd.at_ 2 rfl rfl rfl) (hd.at_ 9 rfl rfl rfl)⟩) ?_
  refine Steps.val (G := Is (.bool true)) (lasts_is _) rfl (fun a w hm hd => ⟨wanted_plain rfl, st_move rfl (hd.at_ 10 rfl rfl rfl)⟩) ?_
  refine Steps.call (G := Is (.bool true)) (lasts_is _) rfl 11 (fun a w hm hd => ⟨wanted_at rfl rfl (hd.at_ 11 rfl rfl rfl), _, ex_call0 Try.func11 (by kernel_rfl) (by kernel_rfl) rfl, by
    refine (awake_any w).mono ?_
    rintro e w' ⟨rfl, hg⟩
    exact ⟨_, rfl, hg, rfl⟩⟩) ?_
  refine Steps.val (G := Is (.bool true)) (lasts_is _) rfl (fun a w hm hd => ⟨wanted_plain rfl, st_pick rfl (hd.at_ 11 rfl rfl rfl) (hd.at_ 12 rfl rfl rfl)⟩) ?_
  refine Steps.val (G := Is (.bool true)) (lasts_is _) rfl (fun a w hm hd => ⟨wanted_plain rfl, st_assign rfl (hd.at_ 13 rfl rfl rfl)⟩) ?_
  intro a V hmid hall
  have h2 : a.eval (.tmp 4) = .bool true := hall 14 _ 4 rfl rfl
  have hdf : a.defers = [] := hmid.defers
  have hgr := hmid.grow
  clear hall hmid
  obtain ⟨tm, df⟩ := a
  simp only at hdf
  subst hdf
  go_wp2
  go_ret
  exact ⟨congrArg Ending.returned h2, HG1.out.trans hgr⟩
end Go.Proofs.Ytibofgokdjbomaa
