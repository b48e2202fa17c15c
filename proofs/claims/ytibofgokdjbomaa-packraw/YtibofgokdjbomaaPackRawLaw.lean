/-
  The law PackRaw, walked.
-/
import Derived.Test.YtibofgokdjbomaaPkAwake
import Derived.Test.YtibofgokdjbomaaORef
namespace Go.Proofs.Ytibofgokdjbomaa
set_option maxRecDepth 1000000
open Go.RowKit

section
variable {o : Oper} {a : Act} {w : World}
theorem st_lssB {x y : Operand} {p q : Int} {b : Bool} (h : o.op = .binOp .lss 3 x y 3) (hx : Is (.int .i64 p) (a.eval x) w) (hy : Is (.int .i64 q) (a.eval y) w) (e : decide (p < q) = b) : Runs (Is (.bool b)) o a w := by
  have hx' : a.eval x = .int .i64 p := hx
  have hy' : a.eval y = .int .i64 q := hy
  subst e
  refine ⟨_, ?_, rfl⟩
  simp only [execOp, h, hx', hy']
  simp [go_sem]
theorem st_neS {x y : Operand} {l m : List UInt8} (h : o.op = .binOp .neq 9 x y 9) (hx : Is (.string ⟨l.toArray⟩) (a.eval x) w) (hy : Is (.string ⟨m.toArray⟩) (a.eval y) w) (e : l = m) : Runs (Is (.bool false)) o a w := by
  subst e
  exact ⟨_, ex_nes h hx hy, rfl⟩
end
set_option maxHeartbeats 8000000 in
theorem packRaw_walk (A : Option Addr) (n c : Nat) (x : List UInt8) (w : World) (hx : Rd w (.slice A n c) (bytesV x)) :
    Calls Try.prog 5 #[.slice A n c] w (Awake w) := by
  have hxn : x.length = n := by have := hx.len.1; rwa [bytesV_len] at this
  by_cases h1 : 500 < n
  · have hd1 : decide (500 < (n : Int)) = true := by simp; omega
    clear hx hxn
    go_enter Try.func5, Try.ntmps5
    go_wp2_with (go_at_call 11; refine (awake_any _).mono ?_; rintro e w9 ⟨rfl, hg9⟩)
    go_ret
    exact ⟨rfl, hg9⟩
  have hd1 : decide (500 < (n : Int)) = false := by simp; omega
  have HU := Lib.hid (unpack_any _ x w hx (by omega))
  have HX := Lib.hid hx
  by_cases h2 : (unpackM x).2 = 0
  · obtain ⟨l, f1, f2, f3, f4, f5⟩ := unpack_is h2
    have hrw := read_write (l := l) (by rw [f5])
    rw [f5] at hrw
    have HWR := Lib.hid (fun v W (h : RdT W v l) => write_any l v W h (by rw [f5]))
    have HWL := Lib.hid (write_len (l := l) (by rw [f5])).1
    rw [f5] at HWL
    have HFW := Lib.hid (expand_few (l := l) (by rw [f5]))
    have HEX := Lib.hid (fun v W (h : RdT W v l) => expand_any l v W h (by have := HFW.out; omega))
    unfold ExpOut at HEX
    rw [f5] at HEX
    have HUU := Lib.hid (show unpackM x = ((unpackM x).1, 0) by rw [← h2])
    generalize (unpackM x).1 = B at *
    have HNU := Lib.hid (fun W => O.refNumber_out (B.length : Int) W)
    rw [show norm (B.length : Int) = B.length by unfold norm; rw [if_neg (by omega)]; simp] at HNU
    have HR1 := Lib.hid (fun v W (h : Rd W v (bytesV (x.drop (enc B.length).length))) => read_any (x.drop (enc B.length).length) B.length v W h (by rw [List.length_drop]; omega) f1)
    rw [f4] at HR1
    have HR2 := Lib.hid (fun v W (h : Rd W v (bytesV (writeS l))) => read_any (writeS l) B.length v W h (by have := HWL.out; omega) f1)
    rw [hrw] at HR2
    generalize enc B.length = E at *
    have HLE := Lib.hid (show decide ((x.length : Int) < (E.length : Int)) = false by rw [decide_eq_false_iff_not]; omega)
    have HLE2 := Lib.hid f3
    have HTK := Lib.hid f2
    have HXN := Lib.hid hxn
    rw [HUU.out] at HU
    clear h1 h2 f1 f2 f3 f4 f5 hrw hx HUU
    go_enter Try.func5, Try.ntmps5
    go_wp2_with fail
    refine HU.out.mono ?_
    rintro e w1 ⟨u1, rfl, hr1, hg1⟩
    have H1 := Lib.hid (And.intro hr1 hg1)
    obtain ⟨A1, c1, rfl⟩ := hr1.form
    simp only [bytesV_len] at H1 ⊢
    clear hr1 hg1 HU
    generalize hB : B.length = m at *
    go_wp2_with fail
    refine (HNU.out w1).mono ?_
    rintro e w2 ⟨u2, rfl, hr2, hg2, _⟩
    have HX5 := Lib.hid (HX.out.grown0 (H1.out.2.trans hg2))
    have HB5 := Lib.hid (H1.out.1.grown0 hg2)
    have HG2 := Lib.hid (H1.out.2.trans hg2)
    have HE5 := Lib.hid hr2
    obtain ⟨A2, c2, rfl⟩ := hr2.form
    simp only [bytesV_len] at HE5 ⊢
    clear hr2 hg2 HNU H1
    go_wp2
    refine wp_region_walk3 15 [] dis_nil (by kernel_rfl) (by kernel_rfl) (by kernel_rfl) ?_
    simp only [List.take_succ_cons, List.take_zero, List.drop_succ_cons, List.drop_zero]
    refine Walk.val (G := IsB (x)) (stays_bytes _ _) rfl rfl (fun a w hm hd => ⟨wanted_plain rfl, st_move rfl (by rw [hm.outer 0 (by kernel_rfl)]; exact HX5.out.grown0 (GrownX.none2 hm.grow))⟩) ?_
    refine Walk.val (G := Is (.int .i64 (x.length : Int))) (stays_is _ _) rfl rfl (fun a w hm hd => ⟨wanted_plain rfl, st_len rfl (hd.at_ 0 rfl rfl rfl rfl)⟩) ?_
    refine Walk.val (G := IsB (E)) (stays_bytes _ _) rfl rfl (fun a w hm hd => ⟨wanted_plain rfl, st_move rfl (by rw [hm.outer 5 (by kernel_rfl)]; exact HE5.out.grown0 (GrownX.none2 hm.grow))⟩) ?_
    refine Walk.val (G := Is (.int .i64 (E.length : Int))) (stays_is _ _) rfl rfl (fun a w hm hd => ⟨wanted_plain rfl, st_len rfl (hd.at_ 2 rfl rfl rfl rfl)⟩) ?_
    refine Walk.val (G := Is (.bool false)) (stays_is _ _) rfl rfl (fun a w hm hd => ⟨wanted_plain rfl, st_lssB rfl (hd.at_ 1 rfl rfl rfl rfl) (hd.at_ 3 rfl rfl rfl rfl) HLE.out⟩) ?_
    refine Walk.val (G := Is (.bool false)) (stays_is _ _) rfl rfl (fun a w hm hd => ⟨wanted_plain rfl, st_move rfl (hd.at_ 4 rfl rfl rfl rfl)⟩) ?_
    refine Walk.val (G := IsB (x)) (stays_bytes _ _) rfl rfl (fun a w hm hd => ⟨wanted_at rfl rfl (hd.at_ 5 rfl rfl rfl rfl), st_move rfl (by rw [hm.outer 0 (by kernel_rfl)]; exact HX5.out.grown0 (GrownX.none2 hm.grow))⟩) ?_
    refine Walk.val (G := IsB (E)) (stays_bytes _ _) rfl rfl (fun a w hm hd => ⟨wanted_at rfl rfl (hd.at_ 5 rfl rfl rfl rfl), st_move rfl (by rw [hm.outer 5 (by kernel_rfl)]; exact HE5.out.grown0 (GrownX.none2 hm.grow))⟩) ?_
    refine Walk.val (G := Is (.int .i64 (E.length : Int))) (stays_is _ _) rfl rfl (fun a w hm hd => ⟨wanted_at rfl rfl (hd.at_ 5 rfl rfl rfl rfl), st_len rfl (hd.at_ 7 rfl rfl rfl rfl)⟩) ?_
    refine Walk.val (G := IsB (x.take E.length)) (stays_bytes _ _) rfl rfl (fun a w hm hd => ⟨wanted_at rfl rfl (hd.at_ 5 rfl rfl rfl rfl), st_take E.length rfl (hd.at_ 6 rfl rfl rfl rfl) (hd.at_ 8 rfl rfl rfl rfl) rfl HLE2.out⟩) ?_
    refine Walk.val (G := Is (.string ⟨(x.take E.length).toArray⟩)) (stays_is _ _) rfl rfl (fun a w hm hd => ⟨wanted_at rfl rfl (hd.at_ 5 rfl rfl rfl rfl), st_str rfl (hd.at_ 9 rfl rfl rfl rfl)⟩) ?_
    refine Walk.val (G := IsB (E)) (stays_bytes _ _) rfl rfl (fun a w hm hd => ⟨wanted_at rfl rfl (hd.at_ 5 rfl rfl rfl rfl), st_move rfl (by rw [hm.outer 5 (by kernel_rfl)]; exact HE5.out.grown0 (GrownX.none2 hm.grow))⟩) ?_
    refine Walk.val (G := Is (.string ⟨E.toArray⟩)) (stays_is _ _) rfl rfl (fun a w hm hd => ⟨wanted_at rfl rfl (hd.at_ 5 rfl rfl rfl rfl), st_str rfl (hd.at_ 11 rfl rfl rfl rfl)⟩) ?_
    refine Walk.val (G := Is (.bool false)) (stays_is _ _) rfl rfl (fun a w hm hd => ⟨wanted_at rfl rfl (hd.at_ 5 rfl rfl rfl rfl), st_neS rfl (hd.at_ 10 rfl rfl rfl rfl) (hd.at_ 12 rfl rfl rfl rfl) HTK.out⟩) ?_
    refine Walk.val (G := Is (.bool false)) (stays_is _ _) rfl rfl (fun a w hm hd => ⟨wanted_plain rfl, st_pickF rfl (hd.at_ 5 rfl rfl rfl rfl) (hd.at_ 13 rfl rfl rfl rfl)⟩) ?_
    intro a9 V9 hm9 hall
    have f47 : Is (.bool false) (a9.eval (.tmp 47)) V9 := hall 14 _ _ rfl rfl
    have hfr := hm9.frame
    simp only [List.take_succ_cons, List.take_zero, List.filterMap_cons, List.filterMap_nil, List.foldl_cons, List.foldl_nil] at hfr
    have hgV9 := GrownX.none2 hm9.grow
    have f47 : a9.eval (.tmp 47) = _ := f47
    rw [f47] at hfr
    generalize a9.eval (.tmp 33) = e33 at hfr
    generalize a9.eval (.tmp 34) = e34 at hfr
    generalize a9.eval (.tmp 35) = e35 at hfr
    generalize a9.eval (.tmp 36) = e36 at hfr
    generalize a9.eval (.tmp 37) = e37 at hfr
    generalize a9.eval (.tmp 38) = e38 at hfr
    generalize a9.eval (.tmp 39) = e39 at hfr
    generalize a9.eval (.tmp 40) = e40 at hfr
    generalize a9.eval (.tmp 41) = e41 at hfr
    generalize a9.eval (.tmp 42) = e42 at hfr
    generalize a9.eval (.tmp 43) = e43 at hfr
    generalize a9.eval (.tmp 44) = e44 at hfr
    generalize a9.eval (.tmp 45) = e45 at hfr
    generalize a9.eval (.tmp 46) = e46 at hfr
    clear hall hm9
    unfold wpList
    rw [hfr]
    clear hfr
    go_simp
    have HX6 := Lib.hid (HX5.out.grown0 hgV9)
    have HB6 := Lib.hid (HB5.out.grown0 hgV9)
    have HG6 := Lib.hid (HG2.out.trans hgV9)
    clear hgV9 HX5 HB5 HE5 HG2
    go_wp2_with (refine wpList_dropB rfl _ _ rfl x E.length (E.length : Int) HX6.out rfl rfl HLE2.out ?_; intro vd hvd)
    refine (HR1.out vd V9 hvd).mono ?_
    rintro e w3 ⟨u3, rfl, ht3, hg3⟩
    have H3 := Lib.hid (show RdT w3 u3 l ∧ Rd w3 (.slice A1 m c1) (bytesV B) ∧ w.grownBy w3 none from ⟨ht3, HB6.out.grown0 hg3, HG6.out.trans hg3⟩)
    clear ht3 hg3 hvd HR1 HX6 HB6 HG6
    go_wp2_with fail
    refine (HEX.out u3 w3 H3.out.1).mono ?_
    rintro e w4 ⟨u4, rfl, hr4, hg4⟩
    have H4 := Lib.hid (show RdT w4 u3 l ∧ Rd w4 (.slice A1 m c1) (bytesV B) ∧ Rd w4 u4 (bytesV B) ∧ w.grownBy w4 none from ⟨H3.out.1.grown0 hg4, H3.out.2.1.grown0 hg4, hr4, H3.out.2.2.trans hg4⟩)
    clear hr4 hg4 HEX H3
    go_wp2_with fail
    refine (HWR.out u3 w4 H4.out.1).mono ?_
    rintro e w5 ⟨u5, rfl, ho5, hg5⟩
    have H5 := Lib.hid (show RdT w5 u3 l ∧ Rd w5 (.slice A1 m c1) (bytesV B) ∧ Rd w5 u4 (bytesV B) ∧ Rd w5 u5 (bytesV (writeS l)) ∧ w.grownBy w5 none from ⟨H4.out.1.grown0 hg5, H4.out.2.1.grown0 hg5, H4.out.2.2.1.grown0 hg5, Rd.of_own ho5, H4.out.2.2.2.trans hg5⟩)
    clear ho5 hg5 HWR H4
    go_wp2_with fail
    refine (HR2.out u5 w5 H5.out.2.2.2.1).mono ?_
    rintro e w6 ⟨u6, rfl, ht6, hg6⟩
    have H6 := Lib.hid (show RdT w6 u3 l ∧ RdT w6 u6 l ∧ w.grownBy w6 none from ⟨H5.out.1.grown0 hg6, ht6, H5.out.2.2.2.2.trans hg6⟩)
    have hs1 := H5.out.2.1.grown0 hg6
    have hs2 := H5.out.2.2.1.grown0 hg6
    obtain ⟨A4, c4, rfl⟩ := hs2.form
    obtain ⟨A3, c3, rfl⟩ := H6.out.1.form
    obtain ⟨A6, c6, rfl⟩ := H6.out.2.1.form
    have s1 := run_str hs1
    have s2 := run_str hs2
    simp only [bytesV_len] at s2 ⊢
    rw [hB] at s2 ⊢
    clear hs1 hs2 ht6 hg6 HR2 H5
    have HFL := Lib.hid (show l.length ≤ 65536 from HFW.out)
    generalize hll : l.length = L at *
    have HLL := Lib.hid hll
    clear hll
    go_wp2
    go_loopw [97] (fun i W => ∃ k : Nat, k ≤ L ∧ i = .int .i64 k ∧ w6.grownBy W none) (fun i _ => L - (intOf i).toNat)
    case atStart => exact ⟨0, Nat.zero_le _, rfl, grown_refl _ _⟩
    case round =>
      obtain ⟨k, hk, rfl, hg⟩ := hrel
      have HG := Lib.hid hg
      have hLL := HFL.out
      clear hg
      by_cases hlt : k < L
      · have hd : decide ((k : Int) < (L : Int)) = true := by simp; omega
        have hkl : k < l.length := by rw [HLL.out]; exact hlt
        obtain ⟨ad, t, rfl, ht, c0, c1', c2'⟩ := (H6.out.1.grown0 HG.out).tok hkl
        obtain ⟨ad2, t2, rfl, ht2, d0, d1', d2'⟩ := (H6.out.2.1.grown0 HG.out).tok hkl
        rw [ht] at ht2
        subst ht2
        have hki : (k : Int) < (L : Int) := by omega
        clear ht
        go_wp2
        go_quiet (fail)
        go_wp2
        go_roundw
        case rel => exact ⟨k + 1, by omega, by go_num, grown_drewN HG.out _⟩
        case measure => simp only [intOf]; omega
      · obtain rfl : k = L := by omega
        have hd : decide ((k : Int) < (k : Int)) = false := by simp
        go_wp2_with (go_at_call 11; refine (awake_any _).mono ?_; rintro e w9 ⟨rfl, hg9⟩)
        go_ret
        exact ⟨rfl, (H6.out.2.2.trans HG.out).trans hg9⟩
  · have HB := Lib.hid (unpack_bad h2)
    have hne : ((unpackM x).2 != 0) = true := by simpa using h2
    generalize unpackM x = U at *
    obtain ⟨U1, U2⟩ := U
    simp only at HB hne
    obtain rfl := HB.out
    clear h2 hx
    go_enter Try.func5, Try.ntmps5
    go_wp2_with fail
    refine HU.out.mono ?_
    rintro e w1 ⟨u1, rfl, hr1, hg1⟩
    have HG1 := Lib.hid hg1
    obtain ⟨A1, c1, rfl⟩ := hr1.form
    simp only [bytesV_len] at hr1 ⊢
    rw [show ([] : List UInt8).length = 0 from rfl]
    clear hr1 hg1 HU
    go_wp2_with (go_at_call 11; refine (awake_any _).mono ?_; rintro e w9 ⟨rfl, hg9⟩)
    go_ret
    exact ⟨rfl, HG1.out.trans hg9⟩
end Go.Proofs.Ytibofgokdjbomaa
