/-
  coder's Chance, and a Writer's Bit over this program.
-/
import Derived.Test.YtohndlfekecfoaaCodC
namespace Go.Proofs.Ytohndlfekecfoaa
set_option maxRecDepth 1000000
open Go.RowKit

/-- Chances as cells. -/
def chV (l : List Nat) : List Value := l.map fun (c : Nat) => Value.int .i16 ((c : Int) - 1024)
theorem chV_len (l : List Nat) : (chV l).length = l.length := by simp [chV]
theorem chV_at (l : List Nat) (j : Nat) (h : j < l.length) : (chV l)[j]? = some (.int .i16 ((l.getD j 0 : Nat) - 1024 : Int)) := by simp [chV, List.getElem?_eq_getElem h]
theorem chV_set (l : List Nat) (j c : Nat) : (chV l).set j (.int .i16 ((c : Int) - 1024)) = chV (l.set j c) := by simp [chV, List.map_set]
theorem Val.made {v : Value} {f : FuncId} {args : Array Value} {w : World} (h : Calls Try.prog f args w (Val v w)) : Calls Try.prog f args w (fun e w' => ∃ u, e = .returned u ∧ w.grownBy w' none ∧ Is v u w') :=
  h.mono fun _ _ ⟨he, hg⟩ => ⟨_, he, hg, rfl⟩

set_option maxHeartbeats 1000000 in
theorem of_any (c : Nat) (hc : c ≤ 2048) (w : World) : Calls Try.prog 14 #[.agg #[.int .i16 ((c : Int) - 1024)]] w (Val (.int .i64 (c : Int)) w) := by
  obtain ⟨q, hq⟩ : ∃ q : Int, q = (c : Int) - 1024 := ⟨_, rfl⟩
  have hq1 : -1024 ≤ q ∧ q ≤ 1024 := by omega
  have HQ := Lib.hid (show 1024 + q = (c : Int) by omega)
  rw [← hq]
  clear hq hc
  go_enter Try.func14, Try.ntmps14
  go_wp2
  go_ret
  exact ⟨by rw [← HQ.out]; rfl, grown_alloc (grown_refl _ _) _⟩
set_option maxHeartbeats 1000000 in
theorem bound_any (c m : Nat) (hc : c ≤ 2048) (hm : m < 4294967296) (w : World) : Calls Try.prog 23 #[.agg #[.int .i16 ((c : Int) - 1024)], .int .u32 (m : Int)] w (Val (.int .u32 ((m / 2048 * c : Nat) : Int)) w) := by
  have HO := Lib.hid (fun w => of_any c hc w)
  obtain ⟨q, hq⟩ : ∃ q : Int, q = (c : Int) - 1024 := ⟨_, rfl⟩
  have hq1 : -1024 ≤ q ∧ q ≤ 1024 := by omega
  rw [← hq] at HO
  rw [← hq]
  have HB := Lib.hid (show m / 2048 * c < 4294967296 by
    have : m / 2048 * c ≤ m / 2048 * 2048 := Nat.mul_le_mul_left _ hc
    omega)
  have HC := Lib.hid hc
  clear hq
  go_enter Try.func23, Try.ntmps23
  go_wp2_with fail
  refine (HO.out _).mono ?_
  rintro e w1 ⟨rfl, hg⟩
  have HG := Lib.hid (grown_trans2 (grown_alloc (grown_refl w none) _) hg)
  clear hg
  go_wp2
  go_ret
  refine ⟨?_, HG.out⟩
  rw [← show (((m / 2048 : Nat) : Int) * (c : Int)) % 4294967296 = ((m / 2048 * c : Nat) : Int) by have := HB.out; rw [← Int.natCast_mul]; omega]
  rfl
section
variable {o : Oper} {a : Act} {w : World}
theorem st_fieldC {x : Operand} {g j : Nat} (h : o.op = .fieldAddr 40 x 0) (hx : Is (.pointer (some ⟨g, j, none⟩)) (a.eval x) w) : Runs (Is (.pointer (some ⟨g, j, none⟩))) o a w := by
  have hx' : a.eval x = .pointer (some ⟨g, j, none⟩) := hx
  refine ⟨_, ?_, rfl⟩
  simp only [execOp, h, hx']
  kernel_rfl
theorem ex_loadC {x : Operand} (ho : o.op = .load 40 x) (g j : Nat) (t : TypeId) (cs : List Value) (q : Int) (hv : a.eval x = .pointer (some ⟨g, j, none⟩)) (hr : Row w g t cs) (hx : cs[j]? = some (.int .i16 q)) :
    (execOp a.eval o).run Try.prog w = .ok (.value (.agg #[.int .i16 q])) w :=
  ex_load_part ho g j t cs [.int .i16 q] _ hv hr (fun k u hu => by
    cases k with
    | zero => simp at hu; rw [Nat.add_zero, hx, hu]
    | succ k => simp at hu) Try.underlying40 rfl (by kernel_rfl)
theorem st_quo32 {x : Operand} {p : Int} {d : Nat} (h : o.op = .binOp .quo 3 x (.const (.int .i64 32)) 3) (hx : Is (.int .i64 p) (a.eval x) w) (hd : p / 32 = (d : Int) ∧ 0 ≤ p ∧ p ≤ 4096) : Runs (Is (.int .i64 (d : Int))) o a w := by
  have hx' : a.eval x = .int .i64 p := hx
  have hc : a.eval (.const (.int .i64 32)) = .int .i64 32 := rfl
  have ht : p.tdiv 32 = (d : Int) := by rw [Int.tdiv_eq_ediv_of_nonneg hd.2.1]; exact hd.1
  have hw : IntKind.i64.wrap (d : Int) = (d : Int) := by rw [IntKind.wrap_i64]; omega
  refine ⟨_, ?_, rfl⟩
  simp only [execOp, h, hx', hc]
  simp [go_sem, ht, hw]
theorem st_conv16 {x : Operand} {n : Nat} (h : o.op = .convert 3 38 x) (hx : Is (.int .i64 (n : Int)) (a.eval x) w) (hn : n ≤ 100) : Runs (Is (.int .i16 (n : Int))) o a w := by
  have hx' : a.eval x = .int .i64 (n : Int) := hx
  have hw : IntKind.i16.wrap (n : Int) = (n : Int) := by simp [IntKind.wrap, IntKind.bits, IntKind.signed]; omega
  refine ⟨_, ?_, rfl⟩
  simp only [execOp, h, hx']
  simp [go_sem, hw]
theorem st_add16 {x y : Operand} {p q r : Int} (h : o.op = .binOp .add 38 x y 38) (hx : Is (.int .i16 p) (a.eval x) w) (hy : Is (.int .i16 q) (a.eval y) w) (e : p + q = r ∧ -2048 ≤ r ∧ r ≤ 2048) : Runs (Is (.int .i16 r)) o a w := by
  have hx' : a.eval x = .int .i16 p := hx
  have hy' : a.eval y = .int .i16 q := hy
  have hw : IntKind.i16.wrap (p + q) = r := by simp [IntKind.wrap, IntKind.bits, IntKind.signed]; omega
  refine ⟨_, ?_, rfl⟩
  simp only [execOp, h, hx', hy']
  simp [go_sem, hw]
theorem st_sub16 {x y : Operand} {p q r : Int} (h : o.op = .binOp .sub 38 x y 38) (hx : Is (.int .i16 p) (a.eval x) w) (hy : Is (.int .i16 q) (a.eval y) w) (e : p - q = r ∧ -2048 ≤ r ∧ r ≤ 2048) : Runs (Is (.int .i16 r)) o a w := by
  have hx' : a.eval x = .int .i16 p := hx
  have hy' : a.eval y = .int .i16 q := hy
  have hw : IntKind.i16.wrap (p - q) = r := by simp [IntKind.wrap, IntKind.bits, IntKind.signed]; omega
  refine ⟨_, ?_, rfl⟩
  simp only [execOp, h, hx', hy']
  simp [go_sem, hw]
end
theorem wpList_storeC {ops : Array Oper} {rest : List Oper} {o : Oper} {a : Act} {w : World} {Q : Exit → Act → World → Prop} (hgd : o.guard = none) (hdst : o.dst = none) (x y : Operand) (ho : o.op = .store 38 x y) (g i : Nat) (t : TypeId) (cs : List Value) (r : Int)
    (hv : a.eval x = .pointer (some ⟨g, i, none⟩)) (hy : a.eval y = .int .i16 r) (hr : Row w g t cs) (hi : i < cs.length) (h : wpList Try.prog ops Q rest a (w.setCell ⟨g, i, none⟩ (.int .i16 r))) : wpList Try.prog ops Q (o :: rest) a w := by
  have hf := hr.frozen i
  have hc := hr.cell (j := i) (u := cs[i]) (List.getElem?_eq_getElem hi)
  refine wpList_plain hgd fun _ hK => ?_
  have hrun : (execOp a.eval o).run Try.prog w = .ok .skip (w.setCell ⟨g, i, none⟩ (.int .i16 r)) := by
    simp only [execOp, ho, hv, hy]
    simp [go_sem, hc, hf]
  unfold Oper.wp
  rw [hrun, Oper.upon_skip]
  refine hK _ _ ?_
  rw [hdst]
  exact h
-- MADE by tools/mkcodb.py

/-- What learning leaves. -/
def LOut (g j : Nat) (t : TypeId) (l : List Nat) (b : Bool) (w : World) (e : Ending) (w' : World) : Prop := e = .returned (.tuple #[]) ∧ Row w' g t (chV (l.set j (saw (l.getD j 0) b))) ∧ w.grownBy w' (some g)
set_option maxHeartbeats 4000000 in
theorem learn_at (g j : Nat) (t : TypeId) (l : List Nat) (p : Int) (w : World) (hr : Row w g t (chV l)) (hj : j < l.length) (hl : Okl l) :
    Calls Try.prog 24 #[.pointer (some ⟨g, j, none⟩), .int .i64 p] w (LOut g j t l (decide (p ≠ 0)) w) := by
  have hk := hl.at_ hj
  have HC := Lib.hid (chV_at l j hj)
  have HJ := Lib.hid (show j < (chV l).length by rw [chV_len]; exact hj)
  have HR := Lib.hid hr
  have HLS := Lib.hid (show ∀ x, l.set j x = l.set j x from fun _ => rfl)
  unfold LOut
  generalize l.getD j 0 = c at *
  obtain ⟨hk1, hk2⟩ := hk
  have HO := Lib.hid (fun w => of_any c (by omega) w)
  obtain ⟨q, hq⟩ : ∃ q : Int, q = (c : Int) - 1024 := ⟨_, rfl⟩
  rw [← hq] at HC HO
  have HQ := Lib.hid hq
  have HK := Lib.hid (And.intro hk1 hk2)
  clear hq hr hj hl HLS
  by_cases h0 : p = 0
  · subst h0
    obtain ⟨d, hd⟩ : ∃ d, d = (2048 - c) / 32 := ⟨_, rfl⟩
    obtain ⟨r, hr⟩ : ∃ r : Int, r = q + d := ⟨_, rfl⟩
    have HD := Lib.hid (show (2048 - (c : Int)) / 32 = (d : Int) ∧ 0 ≤ 2048 - (c : Int) ∧ 2048 - (c : Int) ≤ 4096 by omega)
    have HD2 := Lib.hid (show d ≤ 100 by omega)
    have HRR := Lib.hid (show q + (d : Int) = r ∧ -2048 ≤ r ∧ r ≤ 2048 by have := HQ.out; omega)
    have HSAW := Lib.hid (show saw c (decide ((0 : Int) ≠ 0)) = c + d by rw [hd]; rfl)
    have HRV := Lib.hid (show r = (((c + d : Nat) : Int)) - 1024 by have := HQ.out; omega)
    clear hd hr hk1 hk2
    go_enter Try.func24, Try.ntmps24
    go_wp2
    refine wp_region_walk3 14 [] dis_nil (by kernel_rfl) (by kernel_rfl) (by kernel_rfl) ?_
    simp only [List.take_succ_cons, List.take_zero, List.drop_succ_cons, List.drop_zero]
    refine Walk.val (G := Is (.pointer (some ⟨g, j, none⟩))) (stays_is _ _) rfl rfl (fun a w hm hd => ⟨wanted_plain rfl, st_move rfl (by rw [hm.outer 0 (by kernel_rfl)]; rfl)⟩) ?_
    refine Walk.val (G := Is (.pointer (some ⟨g, j, none⟩))) (stays_is _ _) rfl rfl (fun a w hm hd => ⟨wanted_plain rfl, st_nil rfl (hd.at_ 0 rfl rfl rfl rfl)⟩) ?_
    refine Walk.val (G := Is (.pointer (some ⟨g, j, none⟩))) (stays_is _ _) rfl rfl (fun a w hm hd => ⟨wanted_plain rfl, st_fieldC rfl (hd.at_ 1 rfl rfl rfl rfl)⟩) ?_
    refine Walk.val (G := Is (.int .i16 q)) (stays_is _ _) rfl rfl (fun a w hm hd => ⟨wanted_plain rfl, st_cell rfl (fun _ => by kernel_rfl) (hd.at_ 2 rfl rfl rfl rfl) ((HR.out.grown0 (GrownX.none2 hm.grow)).cell HC.out)⟩) ?_
    refine Walk.val (G := Is (.pointer (some ⟨g, j, none⟩))) (stays_is _ _) rfl rfl (fun a w hm hd => ⟨wanted_plain rfl, st_move rfl (by rw [hm.outer 0 (by kernel_rfl)]; rfl)⟩) ?_
    refine Walk.val (G := Is (.pointer (some ⟨g, j, none⟩))) (stays_is _ _) rfl rfl (fun a w hm hd => ⟨wanted_plain rfl, st_nil rfl (hd.at_ 4 rfl rfl rfl rfl)⟩) ?_
    refine Walk.val (G := Is (.agg #[.int .i16 q])) (stays_is _ _) rfl rfl (fun a w hm hd => ⟨wanted_plain rfl, ⟨_, ex_loadC rfl g j t _ q (hd.at_ 5 rfl rfl rfl rfl) (HR.out.grown0 (GrownX.none2 hm.grow)) HC.out, rfl⟩⟩) ?_
    refine Walk.call (G := Is (.int .i64 (c : Int))) (stays_is _ _) rfl 14 rfl (fun a w hm ha hd => ⟨wanted_plain rfl, _, ex_call1 Try.func14 (by kernel_rfl) (by kernel_rfl) rfl, by rw [show a.eval (.tmp 12) = _ from (hd.at_ 6 rfl rfl rfl rfl)]; exact Val.made (HO.out w)⟩) ?_
    refine Walk.val (G := Is (.int .i64 (2048 - c : Int))) (stays_is _ _) rfl rfl (fun a w hm hd => ⟨wanted_plain rfl, st_subi rfl rfl (hd.at_ 7 rfl rfl rfl rfl) rfl (by have := HK.out; omega)⟩) ?_
    refine Walk.val (G := Is (.int .i64 (d : Int))) (stays_is _ _) rfl rfl (fun a w hm hd => ⟨wanted_plain rfl, st_quo32 rfl (hd.at_ 8 rfl rfl rfl rfl) HD.out⟩) ?_
    refine Walk.val (G := Is (.int .i16 (d : Int))) (stays_is _ _) rfl rfl (fun a w hm hd => ⟨wanted_plain rfl, st_conv16 rfl (hd.at_ 9 rfl rfl rfl rfl) HD2.out⟩) ?_
    refine Walk.val (G := Is (.int .i16 r)) (stays_is _ _) rfl rfl (fun a w hm hd => ⟨wanted_plain rfl, st_add16 rfl (hd.at_ 3 rfl rfl rfl rfl) (hd.at_ 10 rfl rfl rfl rfl) HRR.out⟩) ?_
    refine Walk.val (G := Is (.pointer (some ⟨g, j, none⟩))) (stays_is _ _) rfl rfl (fun a w hm hd => ⟨wanted_plain rfl, st_nil rfl (hd.at_ 0 rfl rfl rfl rfl)⟩) ?_
    refine Walk.val (G := Is (.pointer (some ⟨g, j, none⟩))) (stays_is _ _) rfl rfl (fun a w hm hd => ⟨wanted_plain rfl, st_fieldC rfl (hd.at_ 12 rfl rfl rfl rfl)⟩) ?_
    intro a9 V9 hm9 hall
    have f6 : Is (.pointer (some ⟨g, j, none⟩)) (a9.eval (.tmp 6)) V9 := hall 0 _ _ rfl rfl
    have f7 : Is (.pointer (some ⟨g, j, none⟩)) (a9.eval (.tmp 7)) V9 := hall 1 _ _ rfl rfl
    have f8 : Is (.pointer (some ⟨g, j, none⟩)) (a9.eval (.tmp 8)) V9 := hall 2 _ _ rfl rfl
    have f9 : Is (.int .i16 q) (a9.eval (.tmp 9)) V9 := hall 3 _ _ rfl rfl
    have f10 : Is (.pointer (some ⟨g, j, none⟩)) (a9.eval (.tmp 10)) V9 := hall 4 _ _ rfl rfl
    have f11 : Is (.pointer (some ⟨g, j, none⟩)) (a9.eval (.tmp 11)) V9 := hall 5 _ _ rfl rfl
    have f12 : Is (.agg #[.int .i16 q]) (a9.eval (.tmp 12)) V9 := hall 6 _ _ rfl rfl
    have f13 : Is (.int .i64 (c : Int)) (a9.eval (.tmp 13)) V9 := hall 7 _ _ rfl rfl
    have f14 : Is (.int .i64 (2048 - c : Int)) (a9.eval (.tmp 14)) V9 := hall 8 _ _ rfl rfl
    have f15 : Is (.int .i64 (d : Int)) (a9.eval (.tmp 15)) V9 := hall 9 _ _ rfl rfl
    have f16 : Is (.int .i16 (d : Int)) (a9.eval (.tmp 16)) V9 := hall 10 _ _ rfl rfl
    have f17 : Is (.int .i16 r) (a9.eval (.tmp 17)) V9 := hall 11 _ _ rfl rfl
    have f18 : Is (.pointer (some ⟨g, j, none⟩)) (a9.eval (.tmp 18)) V9 := hall 12 _ _ rfl rfl
    have f19 : Is (.pointer (some ⟨g, j, none⟩)) (a9.eval (.tmp 19)) V9 := hall 13 _ _ rfl rfl
    have hfr := hm9.frame
    simp only [List.take_succ_cons, List.take_zero, List.filterMap_cons, List.filterMap_nil, List.foldl_cons, List.foldl_nil] at hfr
    have hgV9 := GrownX.none2 hm9.grow
    have f6 : a9.eval (.tmp 6) = _ := f6
    rw [f6] at hfr
    have f7 : a9.eval (.tmp 7) = _ := f7
    rw [f7] at hfr
    have f8 : a9.eval (.tmp 8) = _ := f8
    rw [f8] at hfr
    have f9 : a9.eval (.tmp 9) = _ := f9
    rw [f9] at hfr
    have f10 : a9.eval (.tmp 10) = _ := f10
    rw [f10] at hfr
    have f11 : a9.eval (.tmp 11) = _ := f11
    rw [f11] at hfr
    have f12 : a9.eval (.tmp 12) = _ := f12
    rw [f12] at hfr
    have f13 : a9.eval (.tmp 13) = _ := f13
    rw [f13] at hfr
    have f14 : a9.eval (.tmp 14) = _ := f14
    rw [f14] at hfr
    have f15 : a9.eval (.tmp 15) = _ := f15
    rw [f15] at hfr
    have f16 : a9.eval (.tmp 16) = _ := f16
    rw [f16] at hfr
    have f17 : a9.eval (.tmp 17) = _ := f17
    rw [f17] at hfr
    have f18 : a9.eval (.tmp 18) = _ := f18
    rw [f18] at hfr
    have f19 : a9.eval (.tmp 19) = _ := f19
    rw [f19] at hfr
    clear hall hm9
    have R9 := HR.out.grown0 hgV9
    refine wpList_storeC rfl rfl _ _ rfl g j t _ r f19 f17 R9 HJ.out ?_
    have R3 := R9.set j (.int .i16 r)
    have G3 := grown_trans2 (grown_none hgV9 (some g)) (grown_set V9 g j (.int .i16 r))
    generalize V9.setCell ⟨g, j, none⟩ (.int .i16 r) = W3 at *
    have HE := Lib.hid (And.intro R3 G3)
    clear f6
    clear f7
    clear f8
    clear f9
    clear f10
    clear f11
    clear f12
    clear f13
    clear f14
    clear f15
    clear f16
    clear f17
    clear f18
    clear f19
    clear R9 R3 G3 hgV9
    unfold wpList
    rw [hfr]
    clear hfr
    go_simp
    go_wp2
    refine bodyPost_end (results_none rfl _ _ _) rfl ?_
    refine ⟨rfl, ?_, HE.out.2⟩
    have h3 := HE.out.1
    rw [HRV.out, chV_set] at h3
    rw [HSAW.out]
    exact h3
  · have hq0 : (p == 0) = false := by simpa using h0
    have hdq : decide (p ≠ 0) = true := by simpa using h0
    rw [hdq]
    obtain ⟨d, hd⟩ : ∃ d, d = c / 32 := ⟨_, rfl⟩
    obtain ⟨r, hr⟩ : ∃ r : Int, r = q - d := ⟨_, rfl⟩
    have HD := Lib.hid (show (c : Int) / 32 = (d : Int) ∧ 0 ≤ (c : Int) ∧ (c : Int) ≤ 4096 by omega)
    have HD2 := Lib.hid (show d ≤ 100 by omega)
    have HRR := Lib.hid (show q - (d : Int) = r ∧ -2048 ≤ r ∧ r ≤ 2048 by have := HQ.out; omega)
    have HSAW := Lib.hid (show saw c true = c - d by rw [hd]; rfl)
    have HRV := Lib.hid (show r = (((c - d : Nat) : Int)) - 1024 by have := HQ.out; omega)
    clear hd hr hk1 hk2 h0 hdq
    go_enter Try.func24, Try.ntmps24
    go_wp2
    refine wp_region_walk3 13 [] dis_nil (by kernel_rfl) (by kernel_rfl) (by kernel_rfl) ?_
    simp only [List.take_succ_cons, List.take_zero, List.drop_succ_cons, List.drop_zero]
    refine Walk.val (G := Is (.pointer (some ⟨g, j, none⟩))) (stays_is _ _) rfl rfl (fun a w hm hd => ⟨wanted_plain rfl, st_move rfl (by rw [hm.outer 0 (by kernel_rfl)]; rfl)⟩) ?_
    refine Walk.val (G := Is (.pointer (some ⟨g, j, none⟩))) (stays_is _ _) rfl rfl (fun a w hm hd => ⟨wanted_plain rfl, st_nil rfl (hd.at_ 0 rfl rfl rfl rfl)⟩) ?_
    refine Walk.val (G := Is (.pointer (some ⟨g, j, none⟩))) (stays_is _ _) rfl rfl (fun a w hm hd => ⟨wanted_plain rfl, st_fieldC rfl (hd.at_ 1 rfl rfl rfl rfl)⟩) ?_
    refine Walk.val (G := Is (.int .i16 q)) (stays_is _ _) rfl rfl (fun a w hm hd => ⟨wanted_plain rfl, st_cell rfl (fun _ => by kernel_rfl) (hd.at_ 2 rfl rfl rfl rfl) ((HR.out.grown0 (GrownX.none2 hm.grow)).cell HC.out)⟩) ?_
    refine Walk.val (G := Is (.pointer (some ⟨g, j, none⟩))) (stays_is _ _) rfl rfl (fun a w hm hd => ⟨wanted_plain rfl, st_move rfl (by rw [hm.outer 0 (by kernel_rfl)]; rfl)⟩) ?_
    refine Walk.val (G := Is (.pointer (some ⟨g, j, none⟩))) (stays_is _ _) rfl rfl (fun a w hm hd => ⟨wanted_plain rfl, st_nil rfl (hd.at_ 4 rfl rfl rfl rfl)⟩) ?_
    refine Walk.val (G := Is (.agg #[.int .i16 q])) (stays_is _ _) rfl rfl (fun a w hm hd => ⟨wanted_plain rfl, ⟨_, ex_loadC rfl g j t _ q (hd.at_ 5 rfl rfl rfl rfl) (HR.out.grown0 (GrownX.none2 hm.grow)) HC.out, rfl⟩⟩) ?_
    refine Walk.call (G := Is (.int .i64 (c : Int))) (stays_is _ _) rfl 14 rfl (fun a w hm ha hd => ⟨wanted_plain rfl, _, ex_call1 Try.func14 (by kernel_rfl) (by kernel_rfl) rfl, by rw [show a.eval (.tmp 26) = _ from (hd.at_ 6 rfl rfl rfl rfl)]; exact Val.made (HO.out w)⟩) ?_
    refine Walk.val (G := Is (.int .i64 (d : Int))) (stays_is _ _) rfl rfl (fun a w hm hd => ⟨wanted_plain rfl, st_quo32 rfl (hd.at_ 7 rfl rfl rfl rfl) HD.out⟩) ?_
    refine Walk.val (G := Is (.int .i16 (d : Int))) (stays_is _ _) rfl rfl (fun a w hm hd => ⟨wanted_plain rfl, st_conv16 rfl (hd.at_ 8 rfl rfl rfl rfl) HD2.out⟩) ?_
    refine Walk.val (G := Is (.int .i16 r)) (stays_is _ _) rfl rfl (fun a w hm hd => ⟨wanted_plain rfl, st_sub16 rfl (hd.at_ 3 rfl rfl rfl rfl) (hd.at_ 9 rfl rfl rfl rfl) HRR.out⟩) ?_
    refine Walk.val (G := Is (.pointer (some ⟨g, j, none⟩))) (stays_is _ _) rfl rfl (fun a w hm hd => ⟨wanted_plain rfl, st_nil rfl (hd.at_ 0 rfl rfl rfl rfl)⟩) ?_
    refine Walk.val (G := Is (.pointer (some ⟨g, j, none⟩))) (stays_is _ _) rfl rfl (fun a w hm hd => ⟨wanted_plain rfl, st_fieldC rfl (hd.at_ 11 rfl rfl rfl rfl)⟩) ?_
    intro a9 V9 hm9 hall
    have f20 : Is (.pointer (some ⟨g, j, none⟩)) (a9.eval (.tmp 20)) V9 := hall 0 _ _ rfl rfl
    have f21 : Is (.pointer (some ⟨g, j, none⟩)) (a9.eval (.tmp 21)) V9 := hall 1 _ _ rfl rfl
    have f22 : Is (.pointer (some ⟨g, j, none⟩)) (a9.eval (.tmp 22)) V9 := hall 2 _ _ rfl rfl
    have f23 : Is (.int .i16 q) (a9.eval (.tmp 23)) V9 := hall 3 _ _ rfl rfl
    have f24 : Is (.pointer (some ⟨g, j, none⟩)) (a9.eval (.tmp 24)) V9 := hall 4 _ _ rfl rfl
    have f25 : Is (.pointer (some ⟨g, j, none⟩)) (a9.eval (.tmp 25)) V9 := hall 5 _ _ rfl rfl
    have f26 : Is (.agg #[.int .i16 q]) (a9.eval (.tmp 26)) V9 := hall 6 _ _ rfl rfl
    have f27 : Is (.int .i64 (c : Int)) (a9.eval (.tmp 27)) V9 := hall 7 _ _ rfl rfl
    have f28 : Is (.int .i64 (d : Int)) (a9.eval (.tmp 28)) V9 := hall 8 _ _ rfl rfl
    have f29 : Is (.int .i16 (d : Int)) (a9.eval (.tmp 29)) V9 := hall 9 _ _ rfl rfl
    have f30 : Is (.int .i16 r) (a9.eval (.tmp 30)) V9 := hall 10 _ _ rfl rfl
    have f31 : Is (.pointer (some ⟨g, j, none⟩)) (a9.eval (.tmp 31)) V9 := hall 11 _ _ rfl rfl
    have f32 : Is (.pointer (some ⟨g, j, none⟩)) (a9.eval (.tmp 32)) V9 := hall 12 _ _ rfl rfl
    have hfr := hm9.frame
    simp only [List.take_succ_cons, List.take_zero, List.filterMap_cons, List.filterMap_nil, List.foldl_cons, List.foldl_nil] at hfr
    have hgV9 := GrownX.none2 hm9.grow
    have f20 : a9.eval (.tmp 20) = _ := f20
    rw [f20] at hfr
    have f21 : a9.eval (.tmp 21) = _ := f21
    rw [f21] at hfr
    have f22 : a9.eval (.tmp 22) = _ := f22
    rw [f22] at hfr
    have f23 : a9.eval (.tmp 23) = _ := f23
    rw [f23] at hfr
    have f24 : a9.eval (.tmp 24) = _ := f24
    rw [f24] at hfr
    have f25 : a9.eval (.tmp 25) = _ := f25
    rw [f25] at hfr
    have f26 : a9.eval (.tmp 26) = _ := f26
    rw [f26] at hfr
    have f27 : a9.eval (.tmp 27) = _ := f27
    rw [f27] at hfr
    have f28 : a9.eval (.tmp 28) = _ := f28
    rw [f28] at hfr
    have f29 : a9.eval (.tmp 29) = _ := f29
    rw [f29] at hfr
    have f30 : a9.eval (.tmp 30) = _ := f30
    rw [f30] at hfr
    have f31 : a9.eval (.tmp 31) = _ := f31
    rw [f31] at hfr
    have f32 : a9.eval (.tmp 32) = _ := f32
    rw [f32] at hfr
    clear hall hm9
    have R9 := HR.out.grown0 hgV9
    refine wpList_storeC rfl rfl _ _ rfl g j t _ r f32 f30 R9 HJ.out ?_
    have R3 := R9.set j (.int .i16 r)
    have G3 := grown_trans2 (grown_none hgV9 (some g)) (grown_set V9 g j (.int .i16 r))
    generalize V9.setCell ⟨g, j, none⟩ (.int .i16 r) = W3 at *
    have HE := Lib.hid (And.intro R3 G3)
    clear f20
    clear f21
    clear f22
    clear f23
    clear f24
    clear f25
    clear f26
    clear f27
    clear f28
    clear f29
    clear f30
    clear f31
    clear f32
    clear R9 R3 G3 hgV9
    unfold wpList
    rw [hfr]
    clear hfr
    go_simp
    go_wp2
    refine bodyPost_end (results_none rfl _ _ _) rfl ?_
    refine ⟨rfl, ?_, HE.out.2⟩
    have h3 := HE.out.1
    rw [HRV.out, chV_set] at h3
    rw [HSAW.out]
    exact h3
end Go.Proofs.Ytohndlfekecfoaa
