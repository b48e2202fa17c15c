/-
  The law PackTokens, walked.
-/
import Derived.Test.YtibofgokdjbomaaPkAwake
import Derived.Test.YtibofgokdjbomaaPkRwrite
import Derived.Test.YtibofgokdjbomaaStepOps
namespace Go.Proofs.Ytibofgokdjbomaa
set_option maxRecDepth 1000000
open Go.RowKit

section
variable {o : Oper} {a : Act} {w : World}
theorem st_neSt {x y : Operand} {l : List UInt8} (h : o.op = .binOp .neq 9 x y 9) (hx : Is (.string ⟨l.toArray⟩) (a.eval x) w) (hy : Is (.string ⟨l.toArray⟩) (a.eval y) w) : Runs (Is (.bool false)) o a w := ⟨_, ex_nes h hx hy, rfl⟩
theorem st_nee {x y : Operand} {p : Int} (h : o.op = .binOp .neq 24 x y 24) (hx : Is (.int .i64 p) (a.eval x) w) (hy : Is (.int .i64 p) (a.eval y) w) : Runs (Is (.bool false)) o a w := by
  have hx' : a.eval x = .int .i64 p := hx
  have hy' : a.eval y = .int .i64 p := hy
  refine ⟨_, ?_, rfl⟩
  simp only [execOp, h, hx', hy']
  simp [go_sem]
theorem st_neit {x y : Operand} {p : Int} (h : o.op = .binOp .neq 3 x y 3) (hx : Is (.int .i64 p) (a.eval x) w) (hy : Is (.int .i64 p) (a.eval y) w) : Runs (Is (.bool false)) o a w := by
  have hx' : a.eval x = .int .i64 p := hx
  have hy' : a.eval y = .int .i64 p := hy
  refine ⟨_, ?_, rfl⟩
  simp only [execOp, h, hx', hy']
  simp [go_sem]
theorem st_lenTk {x : Operand} {A : Option Addr} {n c : Nat} (h : o.op = .call { callee := .builtin .len, args := #[x], argTypes := #[31] }) (hx : Is (.slice A n c) (a.eval x) w) : Runs (Is (.int .i64 (n : Int))) o a w := by
  have hx' : a.eval x = .slice A n c := hx
  refine ⟨_, ?_, rfl⟩
  unfold execOp
  simp only [h, resolve, invoke, builtin, List.map_toArray, List.map_cons, List.map_nil, hx']
  simp [go_sem]
end
set_option maxHeartbeats 8000000 in
theorem packTokens_walk (A : Option Addr) (n c : Nat) (l : List Tok) (w : World) (hv : RdT w (.slice A n c) l) :
    Calls Try.prog 6 #[.slice A n c] w (Awake w) := by
  have hn : l.length = n := hv.len.1
  by_cases h1 : 200 < n
  · have hd1 : decide (200 < (n : Int)) = true := by simp; omega
    clear hv hn
    go_enter Try.func6, Try.ntmps6
    go_wp2_with (go_at_call 11; refine (awake_any _).mono ?_; rintro e w9 ⟨rfl, hg9⟩)
    go_ret
    exact ⟨rfl, hg9⟩
  have hd1 : decide (200 < (n : Int)) = false := by simp; omega
  have HSZ := Lib.hid (sizes_any l _ w hv (by omega))
  have HEX := Lib.hid (fun W (h : w.grownBy W none) => expand_any l _ W (hv.grown0 h) (by omega))
  have HV := Lib.hid hv
  have HN := Lib.hid hn
  have hnn : n ≤ 200 := by omega
  have HSB := Lib.hid (sizes_bound l)
  have hln : l.length ≤ 200 := by omega
  by_cases h2 : 2000 < sizes l
  · have hd2 : decide (2000 < sizes l) = true := by simpa using h2
    generalize sizes l = z at *
    clear hv hn h1 hln HEX h2
    go_enter Try.func6, Try.ntmps6
    go_wp2_with fail
    refine HSZ.out.mono ?_
    rintro e w1 ⟨rfl, hg1⟩
    have HG1 := Lib.hid hg1
    clear hg1 HSZ
    go_wp2_with (go_at_call 11; refine (awake_any _).mono ?_; rintro e w9 ⟨rfl, hg9⟩)
    go_ret
    exact ⟨rfl, HG1.out.trans hg9⟩
  have hd2 : decide (2000 < sizes l) = false := by simpa using h2
  by_cases h3 : (expand l).2 = 0
  · have HOK := Lib.hid h3
    have HBL := Lib.hid (show (expand l).1.length ≤ 2000 by
      have h : (((expand l).1.length : Nat) : Int) = _ := expandFrom_ok l [] h3
      simp at h
      omega)
    have HWR := Lib.hid (fun W (h : w.grownBy W none) => write_any l _ W (hv.grown0 h) h3)
    have HRW := Lib.hid (fun (v : Value) W (h : RdT W v l) => writeR_any l v W h h3 (by omega))
    have HRD := Lib.hid (fun v W (h : Rd W v (bytesV (writeS l))) => read_any (writeS l) (expand l).1.length v W h (by have := (write_len (l := l) h3).1; have := HBL.out; omega) (by have := HBL.out; omega))
    rw [read_write h3] at HRD
    unfold ExpOut at HEX
    rw [h3] at HEX
    generalize sizes l = z at *
    generalize (expand l).1 = B at *
    clear hv hn h1 h2 h3 hln
    go_enter Try.func6, Try.ntmps6
    go_wp2_with fail
    refine HSZ.out.mono ?_
    rintro e w1 ⟨rfl, hg1⟩
    have HG1 := Lib.hid hg1
    have HE1 := Lib.hid (HEX.out w1 hg1)
    clear hg1 HSZ HEX
    go_wp2_with fail
    refine HE1.out.mono ?_
    rintro e w2 ⟨vb, rfl, hr2, hg2⟩
    have HR2 := Lib.hid hr2
    have HG2 := Lib.hid (HG1.out.trans hg2)
    obtain ⟨Ab, cb, rfl⟩ := hr2.form
    rw [bytesV_len] at HR2 ⊢
    clear hr2 hg2 HE1 HG1
    go_wp2
    go_loopw [31, 5] (fun i s W => ∃ k : Nat, k ≤ n ∧ i = .int .i64 k ∧ W.ownsRow w2.heap.size 41 3 s k (tokCs (l.take k)) ∧ w2.grownBy W none) (fun i _ _ => n - (intOf i).toNat)
    case atStart => exact ⟨0, Nat.zero_le _, rfl, World.ownsRow_nil _ _ _ _, grown_refl _ _⟩
    case round =>
      obtain ⟨k, hk, rfl, ho, hg⟩ := hrel
      by_cases hlt : k < n
      · have hkl : k < l.length := by rw [HN.out]; exact hlt
        obtain ⟨ad, t, rfl, ht, c0, c1, c2⟩ := (HV.out.grown0 (HG2.out.trans hg)).tok hkl
        have HO := Lib.hid ho
        have HG := Lib.hid hg
        have HNX := Lib.hid (show tokCs (l.take (k + 1)) = tokCs (l.take k) ++ tokC t by rw [List.take_succ_eq_append_getElem hkl, tokCs_app, ht]; simp [tokCs])
        have hd3 : decide ((k : Int) < (n : Int)) = true := by simp; omega
        clear ho hg ht
        go_wp2_with (first
          | (refine wpList_buildTok rfl _ 41 40 (.inr ⟨rfl, rfl⟩) rfl t rfl ?_)
          | (at_builtin; refine wpList_appTok rfl _ _ 41 40 (.inr ⟨rfl, rfl⟩) rfl w2.heap.size u5 k (tokCs (l.take k)) rfl (own_grown (own_grown HO.out (grown_alloc (grown_refl _ none) _)) (grown_alloc (grown_refl _ none) _)) _ t rfl (Row.new _ _ (tokC t)) (by omega) (by have := HG.out.size; simp; omega) ?_; intro g' c' w7 ho7 hg7 hat7; have HO7 := Lib.hid ho7; have HG7 := Lib.hid hg7; clear ho7 hg7 hat7 c0 c1 c2))
        go_roundw
        case rel =>
          refine ⟨k + 1, by omega, rfl, by rw [HNX.out]; exact HO7.out, ?_⟩
          exact grown_new (grown_alloc (grown_alloc HG.out _) _) HG7.out (fun r e => (HO.out.lt r e).1)
        case measure => simp only [intOf]; omega
      · have hkn : k = n := by omega
        subst hkn
        have hd3 : decide ((k : Int) < (k : Int)) = false := by simp
        have hw : l.take k = l := by rw [← HN.out, List.take_length]
        rw [hw] at ho
        have HWW := Lib.hid (HWR.out wr (HG2.out.trans hg))
        have HO := Lib.hid (show RdT wr u5 l from RdT.of_own HN.out.symm ho)
        have HG := Lib.hid hg
        clear ho hg HWR
        go_wp2_with fail
        refine HWW.out.mono ?_
        rintro e w5 ⟨v5, rfl, ho5, hg5⟩
        have HRR := Lib.hid (HRD.out v5 w5 (Rd.of_own ho5))
        have HX5 := Lib.hid (Rd.of_own ho5)
        have HO5 := Lib.hid (HO.out.grown0 hg5)
        have HG5 := Lib.hid (HG2.out.trans (HG.out.trans hg5))
        clear ho5 hg5 HRD HO HG HWW
        go_wp2_with fail
        refine HRR.out.mono ?_
        rintro e w6 ⟨u6, rfl, ht6, hg6⟩
        obtain ⟨A6, c6, rfl⟩ := ht6.form
        have H5 := Lib.hid (show RdT w6 (.slice A k c) l ∧ RdT w6 (.slice A6 l.length c6) l ∧ RdT w6 u5 l ∧ Rd w6 v5 (bytesV (writeS l)) ∧ w.grownBy w6 none from ⟨HV.out.grown0 (HG5.out.trans hg6), ht6, HO5.out.grown0 hg6, HX5.out.grown0 hg6, HG5.out.trans hg6⟩)
        rw [HN.out] at H5 ⊢
        clear ht6 hg6 HRR HX5 HO5 HG5
        generalize u5 = gv at *
        go_wp2
        refine wp_region_walk3 17 [] dis_nil (by kernel_rfl) (by kernel_rfl) (by kernel_rfl) ?_
        simp only [List.take_succ_cons, List.take_zero, List.drop_succ_cons, List.drop_zero]
        refine Walk.val (G := IsB (writeS l)) (stays_bytes _ _) rfl rfl (fun a w hm hd => ⟨wanted_plain rfl, st_move rfl (by rw [hm.outer 8 (by kernel_rfl)]; exact H5.out.2.2.2.1.grown0 (GrownX.none2 hm.grow))⟩) ?_
        refine Walk.val (G := Is (.string ⟨(writeS l).toArray⟩)) (stays_is _ _) rfl rfl (fun a w hm hd => ⟨wanted_plain rfl, st_str rfl (hd.at_ 0 rfl rfl rfl rfl)⟩) ?_
        refine Walk.val (G := Is (gv)) (stays_is _ _) rfl rfl (fun a w hm hd => ⟨wanted_plain rfl, st_move rfl (by rw [hm.outer 5 (by kernel_rfl)]; rfl)⟩) ?_
        refine Walk.call (G := IsB (writeS l)) (stays_bytes _ _) rfl 20 rfl (fun a w hm ha hd => ⟨wanted_plain rfl, _, ex_call1 Try.func20 (by kernel_rfl) (by kernel_rfl) rfl, by
          rw [show a.eval (.tmp 57) = _ from (hd.at_ 2 rfl rfl rfl rfl)]
          exact (HRW.out gv w (H5.out.2.2.1.grown0 (GrownX.none2 hm.grow))).mono fun _ _ ⟨u, h1, h2, h3⟩ => ⟨u, h1, h3, h2⟩⟩) ?_
        refine Walk.val (G := Is (.string ⟨(writeS l).toArray⟩)) (stays_is _ _) rfl rfl (fun a w hm hd => ⟨wanted_plain rfl, st_str rfl (hd.at_ 3 rfl rfl rfl rfl)⟩) ?_
        refine Walk.val (G := Is (.bool false)) (stays_is _ _) rfl rfl (fun a w hm hd => ⟨wanted_plain rfl, st_neSt rfl (hd.at_ 1 rfl rfl rfl rfl) (hd.at_ 4 rfl rfl rfl rfl)⟩) ?_
        refine Walk.val (G := Is (.bool false)) (stays_is _ _) rfl rfl (fun a w hm hd => ⟨wanted_plain rfl, st_move rfl (hd.at_ 5 rfl rfl rfl rfl)⟩) ?_
        refine Walk.val (G := Is (.int .i64 0)) (stays_is _ _) rfl rfl (fun a w hm hd => ⟨wanted_at rfl rfl (hd.at_ 6 rfl rfl rfl rfl), st_move rfl (by rw [hm.outer 10 (by kernel_rfl)]; rfl)⟩) ?_
        refine Walk.val (G := Is (.bool false)) (stays_is _ _) rfl rfl (fun a w hm hd => ⟨wanted_at rfl rfl (hd.at_ 6 rfl rfl rfl rfl), st_nee rfl (hd.at_ 7 rfl rfl rfl rfl) rfl⟩) ?_
        refine Walk.val (G := Is (.bool false)) (stays_is _ _) rfl rfl (fun a w hm hd => ⟨wanted_plain rfl, st_pickF rfl (hd.at_ 6 rfl rfl rfl rfl) (hd.at_ 8 rfl rfl rfl rfl)⟩) ?_
        refine Walk.val (G := Is (.bool false)) (stays_is _ _) rfl rfl (fun a w hm hd => ⟨wanted_plain rfl, st_move rfl (hd.at_ 9 rfl rfl rfl rfl)⟩) ?_
        refine Walk.val (G := Is (.slice A6 k c6)) (stays_is _ _) rfl rfl (fun a w hm hd => ⟨wanted_at rfl rfl (hd.at_ 10 rfl rfl rfl rfl), st_move rfl (by rw [hm.outer 9 (by kernel_rfl)]; rfl)⟩) ?_
        refine Walk.val (G := Is (.int .i64 (k : Int))) (stays_is _ _) rfl rfl (fun a w hm hd => ⟨wanted_at rfl rfl (hd.at_ 10 rfl rfl rfl rfl), st_lenTk rfl (hd.at_ 11 rfl rfl rfl rfl)⟩) ?_
        refine Walk.val (G := Is (.slice A k c)) (stays_is _ _) rfl rfl (fun a w hm hd => ⟨wanted_at rfl rfl (hd.at_ 10 rfl rfl rfl rfl), st_move rfl (by rw [hm.outer 0 (by kernel_rfl)]; rfl)⟩) ?_
        refine Walk.val (G := Is (.int .i64 (k : Int))) (stays_is _ _) rfl rfl (fun a w hm hd => ⟨wanted_at rfl rfl (hd.at_ 10 rfl rfl rfl rfl), st_lenTk rfl (hd.at_ 13 rfl rfl rfl rfl)⟩) ?_
        refine Walk.val (G := Is (.bool false)) (stays_is _ _) rfl rfl (fun a w hm hd => ⟨wanted_at rfl rfl (hd.at_ 10 rfl rfl rfl rfl), st_neit rfl (hd.at_ 12 rfl rfl rfl rfl) (hd.at_ 14 rfl rfl rfl rfl)⟩) ?_
        refine Walk.val (G := Is (.bool false)) (stays_is _ _) rfl rfl (fun a w hm hd => ⟨wanted_plain rfl, st_pickF rfl (hd.at_ 10 rfl rfl rfl rfl) (hd.at_ 15 rfl rfl rfl rfl)⟩) ?_
        intro a9 V9 hm9 hall
        have f71 : Is (.bool false) (a9.eval (.tmp 71)) V9 := hall 16 _ _ rfl rfl
        have hfr := hm9.frame
        simp only [List.take_succ_cons, List.take_zero, List.filterMap_cons, List.filterMap_nil, List.foldl_cons, List.foldl_nil] at hfr
        have hgV9 := GrownX.none2 hm9.grow
        have f71 : a9.eval (.tmp 71) = _ := f71
        rw [f71] at hfr
        generalize a9.eval (.tmp 55) = e55 at hfr
        generalize a9.eval (.tmp 56) = e56 at hfr
        generalize a9.eval (.tmp 57) = e57 at hfr
        generalize a9.eval (.tmp 58) = e58 at hfr
        generalize a9.eval (.tmp 59) = e59 at hfr
        generalize a9.eval (.tmp 60) = e60 at hfr
        generalize a9.eval (.tmp 61) = e61 at hfr
        generalize a9.eval (.tmp 62) = e62 at hfr
        generalize a9.eval (.tmp 63) = e63 at hfr
        generalize a9.eval (.tmp 64) = e64 at hfr
        generalize a9.eval (.tmp 65) = e65 at hfr
        generalize a9.eval (.tmp 66) = e66 at hfr
        generalize a9.eval (.tmp 67) = e67 at hfr
        generalize a9.eval (.tmp 68) = e68 at hfr
        generalize a9.eval (.tmp 69) = e69 at hfr
        generalize a9.eval (.tmp 70) = e70 at hfr
        clear hall hm9
        unfold wpList
        rw [hfr]
        clear hfr
        go_simp
        have HG6 := Lib.hid (H5.out.2.2.2.2.trans hgV9)
        have H6 := Lib.hid (show RdT V9 (.slice A k c) l ∧ RdT V9 (.slice A6 k c6) l from ⟨H5.out.1.grown0 hgV9, H5.out.2.1.grown0 hgV9⟩)
        clear hgV9 H5
        go_wp2
        go_loopw [74] (fun i W => ∃ q : Nat, q ≤ k ∧ i = .int .i64 q ∧ V9.grownBy W none) (fun i _ => k - (intOf i).toNat)
        case atStart => exact ⟨0, Nat.zero_le _, rfl, grown_refl _ _⟩
        case round =>
          obtain ⟨q, hq, rfl, hg⟩ := hrel
          have HG := Lib.hid hg
          clear hg
          by_cases hlq : q < k
          · have hd4 : decide ((q : Int) < (k : Int)) = true := by simp; omega
            have hql : q < l.length := by rw [HN.out]; exact hlq
            obtain ⟨ad, t, rfl, ht, c0, c1', c2'⟩ := (H6.out.1.grown0 HG.out).tok hql
            obtain ⟨ad2, t2, rfl, ht2, d0, d1', d2'⟩ := (H6.out.2.grown0 HG.out).tok hql
            rw [ht] at ht2
            subst ht2
            have hki : (q : Int) < (k : Int) := by omega
            clear ht
            go_wp2
            go_quiet (fail)
            go_wp2
            go_roundw
            case rel => exact ⟨q + 1, by omega, by go_num, grown_drewN HG.out _⟩
            case measure => simp only [intOf]; omega
          · obtain rfl : q = k := by omega
            have hd4 : decide ((q : Int) < (q : Int)) = false := by simp
            go_wp2_with (go_at_call 11; refine (awake_any _).mono ?_; rintro e w9 ⟨rfl, hg9⟩)
            go_ret
            exact ⟨rfl, (HG6.out.trans HG.out).trans hg9⟩
  · have hne : (((expand l).2 : Int) != 0) = true := by simp; omega
    unfold ExpOut at HEX
    generalize sizes l = z at *
    generalize expand l = U at *
    obtain ⟨U1, U2⟩ := U
    simp only at HEX hne
    clear hv hn h1 h2 h3 hln
    go_enter Try.func6, Try.ntmps6
    go_wp2_with fail
    refine HSZ.out.mono ?_
    rintro e w1 ⟨rfl, hg1⟩
    have HG1 := Lib.hid hg1
    have HE1 := Lib.hid (HEX.out w1 hg1)
    clear hg1 HSZ HEX
    go_wp2_with fail
    refine HE1.out.mono ?_
    rintro e w2 ⟨vb, rfl, hr2, hg2⟩
    have HG2 := Lib.hid (HG1.out.trans hg2)
    obtain ⟨Ab, cb, rfl⟩ := hr2.form
    clear hr2 hg2 HE1 HG1
    go_wp2_with (go_at_call 11; refine (awake_any _).mono ?_; rintro e w9 ⟨rfl, hg9⟩)
    go_ret
    exact ⟨rfl, HG2.out.trans hg9⟩
end Go.Proofs.Ytibofgokdjbomaa
