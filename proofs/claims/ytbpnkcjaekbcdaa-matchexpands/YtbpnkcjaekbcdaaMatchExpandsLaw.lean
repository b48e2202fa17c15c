/-
  The law MatchExpands, walked.
-/
import Derived.Test.YtbpnkcjaekbcdaaMatchAwake
import Derived.Test.YtbpnkcjaekbcdaaRefExpand
import Derived.Test.YtbpnkcjaekbcdaaGiven
import Derived.Test.YtbpnkcjaekbcdaaBytOps
import Derived.Test.YtbpnkcjaekbcdaaIntOps
namespace Go.Proofs.Ytbpnkcjaekbcdaa
open Go.RowKit

section
variable {o : Oper} {a : Act} {w : World}
theorem st_indexTok {x y : Operand} {ad : Addr} {n c i : Nat} (h : o.op = .indexAddr 24 x y) (hx : Is (.slice (some ad) n c) (a.eval x) w) (hy : Is (.int .i64 (i : Int)) (a.eval y) w) (hi : i < n) : Runs (Is (.pointer (some (ad.add (i * 3))))) o a w := by
  have hx' : a.eval x = .slice (some ad) n c := hx
  have hy' : a.eval y = .int .i64 (i : Int) := hy
  obtain ⟨inf, z, h1, _, _, h2, _⟩ := infoTok 38 (.inl rfl)
  refine ⟨_, ?_, rfl⟩
  simp only [execOp, h, hx', hy']
  simp [go_sem, hi, sizeOf, typeInfo, h1, h2]
theorem st_loadTok {x : Operand} {ty : TypeId} (hty : ty = 38 ∨ ty = 30) {ad : Addr} {t : Tok} (h : o.op = .load ty x) (hx : Is (.pointer (some ad)) (a.eval x) w) (hc : ∀ i u, (tokC t)[i]? = some u → w.cell? (ad.add i) = some u) : Runs (Is (tokV t)) o a w := by
  have hx' : a.eval x = .pointer (some ad) := hx
  refine ⟨_, ?_, rfl⟩
  have := run_loadTok ty hty w ad t hc
  simp only [execOp, h, hx', Sem.run_bind, this, Result.andThen_ok, Sem.run_pure]
theorem st_neB {x y : Operand} {b : Bool} (h : o.op = .binOp .neq 4 x y 4) (hx : Is (.bool b) (a.eval x) w) (hy : Is (.bool b) (a.eval y) w) : Runs (Is (.bool false)) o a w := by
  have hx' : a.eval x = .bool b := hx
  have hy' : a.eval y = .bool b := hy
  refine ⟨_, ?_, rfl⟩
  simp only [execOp, h, hx', hy']
  simp [go_sem]
end
theorem Val.made {f : FuncId} {args : Array Value} {v : Value} {w : World} (h : Calls Try.prog f args w (Val v w)) : Calls Try.prog f args w fun e w' => ∃ u, e = .returned u ∧ w.grownBy w' none ∧ Is v u w' :=
  h.mono fun _ _ x => ⟨v, x.1, x.2, rfl⟩

set_option maxHeartbeats 4000000 in
theorem matchExpands_walk (A : Option Addr) (n c : Nat) (l : List Tok) (w : World) (hv : RdT w (.slice A n c) l) :
    Calls Try.prog 4 #[.slice A n c] w (Awake w) := by
  have hn : l.length = n := hv.len.1
  by_cases h1 : 400 < n
  · have hd1 : decide (400 < (n : Int)) = true := by simp; omega
    clear hv hn
    go_enter Try.func4, Try.ntmps4
    go_wp2_with (go_at_call 9; refine (awake_any _).mono ?_; rintro e w9 ⟨rfl, hg9⟩)
    go_ret
    exact ⟨rfl, hg9⟩
  have hd1 : decide (400 < (n : Int)) = false := by simp; omega
  have hln : l.length ≤ 400 := by omega
  have HEX := Lib.hid (expand_any l _ w hv (by omega))
  have HGV := Lib.hid (fun W (h : w.grownBy W none) => given_any l _ W (hv.grown0 h) (by omega))
  have HRX := Lib.hid (fun (v : Value) W (h : RdT W v l) => refExpand_any l v W h (by omega))
  have HSZ := Lib.hid (fun W (h : w.grownBy W none) => sizes_any l _ W (hv.grown0 h) (by omega))
  have HOK := Lib.hid (fun (h : (expand l).2 = 0) => expandFrom_ok l [] h)
  have HSM := Lib.hid (expandFrom_small l [])
  have HV := Lib.hid hv
  have HN := Lib.hid hn
  have hnn : n ≤ 400 := by omega
  clear hv hn h1 hln
  go_enter Try.func4, Try.ntmps4
  go_wp2_with fail
  refine HEX.out.mono ?_
  rintro e w1 ⟨v1, rfl, hr1, hg1⟩
  have HGV1 := Lib.hid (HGV.out w1 hg1)
  have HR1 := Lib.hid hr1
  have HG1 := Lib.hid hg1
  clear hr1 hg1 HEX
  go_wp2_with fail
  refine HGV1.out.mono ?_
  rintro e w2 ⟨v2, rfl, hr2, hg2⟩
  have HRX2 := Lib.hid (HRX.out v2 w2 hr2)
  have HG2 := Lib.hid (HG1.out.trans hg2)
  have HR2 := Lib.hid (HR1.out.grown0 hg2)
  clear hr2 hg2 HGV1 HRX HG1 HR1
  go_wp2_with fail
  refine HRX2.out.mono ?_
  rintro e w3 ⟨v3, rfl, hr3, hg3⟩
  have HR3 := Lib.hid hr3
  have HRA := Lib.hid (HR2.out.grown0 hg3)
  have HG3 := Lib.hid (HG2.out.trans hg3)
  have HGV3 := Lib.hid (HGV.out w3 HG3.out)
  clear hr3 hg3 HRX2 HR2 HG2 HGV
  go_wp2_with fail
  refine HGV3.out.mono ?_
  rintro e w4 ⟨v4, rfl, hr4, hg4⟩
  obtain ⟨A4, c4, rfl⟩ := hr4.form
  rw [HN.out] at hr4 ⊢
  have HR4 := Lib.hid hr4
  have HR34 := Lib.hid (HR3.out.grown0 hg4)
  have HRA4 := Lib.hid (HRA.out.grown0 hg4)
  have HG4 := Lib.hid (HG3.out.trans hg4)
  clear hr4 hg4 HGV3 HR3 HRA HG3
  go_wp2
  go_loopw [27] (fun i W => ∃ k : Nat, k ≤ n ∧ i = .int .i64 k ∧ w4.grownBy W none) (fun i _ => n - (intOf i).toNat)
  case atStart => exact ⟨0, Nat.zero_le _, rfl, grown_refl _ _⟩
  case round =>
    obtain ⟨k, hk, rfl, hg⟩ := hrel
    by_cases hlt : k < n
    · have hkl : k < l.length := by rw [HN.out]; exact hlt
      obtain ⟨ad4, t, rfl, ht, c0, c1', c2'⟩ := (HR4.out.grown0 hg).tok hkl
      have HG := Lib.hid hg
      have RN := Lib.hid (Row.new wr 30 (tokC t))
      have HGA := Lib.hid (grown_alloc (grown_refl wr none) (.cells (tokC t).toArray 30))
      obtain ⟨ad, rfl, hcl⟩ := HV.out.at_ hkl
      rw [ht] at hcl
      have HVC := Lib.hid hcl
      clear hg ht hcl
      go_wp2
      change Code.wp _ _ _ _ (wr.alloc (.cells (tokC t).toArray 30))
      generalize wr.alloc (.cells (tokC t).toArray 30) = W4 at *
      generalize wr.heap.size = g8 at *
      have HWG := Lib.hid ((HG4.out.trans HG.out).trans HGA.out)
      have HC := Lib.hid (fun W (h : W4.grownBy W none) (i : Nat) u (hu : (tokC t)[i]? = some u) => show W.cell? ((ad.add (k * 3)).add i) = some u from by
        have e := HVC.out i u hu
        rw [← e]
        exact World.cell?_of_block ((HWG.out.trans h).block _ (World.block_lt_of_cell? w _ e) (by simp)))
      have HD := Lib.hid (fun W (h : W4.grownBy W none) (i : Nat) u (hu : (tokC t)[i]? = some u) => show W.cell? ((⟨g8, 0, none⟩ : Addr).add i) = some u from by
        rw [show (⟨g8, 0, none⟩ : Addr).add i = ⟨g8, i, none⟩ by unfold Addr.add; split <;> simp_all]
        exact (RN.out.grown0 h).cell hu)
      clear c0 c1' c2'
      · skip
        refine wp_region_walk3 8 [] dis_nil (by kernel_rfl) (by kernel_rfl) (by kernel_rfl) ?_
        simp only [List.take_succ_cons, List.take_zero, List.drop_succ_cons, List.drop_zero]
        refine Walk.val (G := Is (.slice (some ad) n c)) (stays_is _ _) rfl rfl (fun a w hm hd => ⟨wanted_plain rfl, st_move rfl (by rw [hm.outer 0 (by kernel_rfl)]; rfl)⟩) ?_
        refine Walk.val (G := Is (.int .i64 ((k : Int)))) (stays_is _ _) rfl rfl (fun a w hm hd => ⟨wanted_plain rfl, st_move rfl (by rw [hm.outer 7 (by kernel_rfl)]; rfl)⟩) ?_
        refine Walk.val (G := Is (.pointer (some (ad.add (k * 3))))) (stays_is _ _) rfl rfl (fun a w hm hd => ⟨wanted_plain rfl, st_indexTok rfl (hd.at_ 0 rfl rfl rfl rfl) (hd.at_ 1 rfl rfl rfl rfl) hlt⟩) ?_
        refine Walk.val (G := Is (tokV t)) (stays_is _ _) rfl rfl (fun a w hm hd => ⟨wanted_plain rfl, st_loadTok (.inl rfl) rfl (hd.at_ 2 rfl rfl rfl rfl) (HC.out _ hm.grow.none2)⟩) ?_
        refine Walk.call (G := Is (.bool (right t))) (stays_is _ _) rfl 15 rfl (fun a w hm ha hd => ⟨wanted_plain rfl, _, ex_call1 Try.func15 (by kernel_rfl) (by kernel_rfl) rfl, by
          rw [show a.eval (.tmp 35) = _ from (hd.at_ 3 rfl rfl rfl rfl)]
          exact Val.made (right_any t w)⟩) ?_
        refine Walk.val (G := Is (tokV t)) (stays_is _ _) rfl rfl (fun a w hm hd => ⟨wanted_plain rfl, st_loadTok (.inr rfl) rfl (by rw [hm.outer 8 (by kernel_rfl)]; rfl) (HD.out _ hm.grow.none2)⟩) ?_
        refine Walk.call (G := Is (.bool (right t))) (stays_is _ _) rfl 16 rfl (fun a w hm ha hd => ⟨wanted_plain rfl, _, ex_call1 Try.func16 (by kernel_rfl) (by kernel_rfl) rfl, by
          rw [show a.eval (.tmp 37) = _ from (hd.at_ 5 rfl rfl rfl rfl)]
          exact Val.made (refRight_any t w)⟩) ?_
        refine Walk.val (G := Is (.bool false)) (stays_is _ _) rfl rfl (fun a w hm hd => ⟨wanted_plain rfl, st_neB rfl (hd.at_ 4 rfl rfl rfl rfl) (hd.at_ 6 rfl rfl rfl rfl)⟩) ?_
        intro a9 V9 hm9 hall
        have f32 : Is (.slice (some ad) n c) (a9.eval (.tmp 32)) V9 := hall 0 _ _ rfl rfl
        have f33 : Is (.int .i64 ((k : Int))) (a9.eval (.tmp 33)) V9 := hall 1 _ _ rfl rfl
        have f34 : Is (.pointer (some (ad.add (k * 3)))) (a9.eval (.tmp 34)) V9 := hall 2 _ _ rfl rfl
        have f35 : Is (tokV t) (a9.eval (.tmp 35)) V9 := hall 3 _ _ rfl rfl
        have f36 : Is (.bool (right t)) (a9.eval (.tmp 36)) V9 := hall 4 _ _ rfl rfl
        have f37 : Is (tokV t) (a9.eval (.tmp 37)) V9 := hall 5 _ _ rfl rfl
        have f38 : Is (.bool (right t)) (a9.eval (.tmp 38)) V9 := hall 6 _ _ rfl rfl
        have f39 : Is (.bool false) (a9.eval (.tmp 39)) V9 := hall 7 _ _ rfl rfl
        have hfr := hm9.frame
        simp only [List.take_succ_cons, List.take_zero, List.filterMap_cons, List.filterMap_nil, List.foldl_cons, List.foldl_nil] at hfr
        have hgV9 : W4.grownBy V9 none := GrownX.none2 hm9.grow
        clear hall hm9
        rw [show a9.eval (.tmp 32) = _ from f32] at hfr
        clear f32
        rw [show a9.eval (.tmp 33) = _ from f33] at hfr
        clear f33
        rw [show a9.eval (.tmp 34) = _ from f34] at hfr
        clear f34
        rw [show a9.eval (.tmp 35) = _ from f35] at hfr
        clear f35
        rw [show a9.eval (.tmp 36) = _ from f36] at hfr
        clear f36
        rw [show a9.eval (.tmp 37) = _ from f37] at hfr
        clear f37
        rw [show a9.eval (.tmp 38) = _ from f38] at hfr
        clear f38
        rw [show a9.eval (.tmp 39) = _ from f39] at hfr
        clear f39
        unfold wpList
        rw [hfr]
        clear hfr
        go_simp
        go_wp2
        go_roundw
        case rel => exact ⟨k + 1, by omega, rfl, (HG.out.trans HGA.out).trans hgV9⟩
        case measure => simp only [intOf]; omega
    · have hkn : k = n := by omega
      subst hkn
      have HG := Lib.hid (HG4.out.trans hg)
      have hs1 := HRA4.out.grown0 hg
      have hs2 := HR34.out.grown0 hg
      obtain ⟨A1, c1, rfl⟩ := hs1.form
      obtain ⟨A3, c3, rfl⟩ := hs2.form
      have HS1 := Lib.hid (HSZ.out wr HG.out)
      generalize hex : expand l = ex at *
      obtain ⟨x, code⟩ := ex
      simp only [bytesV_len] at hs1 hs2 ⊢
      have ht1 := run_str hs1
      have ht2 := run_str hs2
      by_cases h0 : code = 0
      · subst h0
        have hsz : (x.length : Int) = sizes l := by
          have := HOK.out rfl
          rw [show expandFrom [] l = (x, 0) from hex] at this
          simpa using this
        rw [← hsz] at HS1
        clear hsz hs1 hs2 hg
        go_wp2_with fail
        refine HS1.out.mono ?_
        rintro e w8 ⟨rfl, hg8⟩
        clear ht1 ht2
        go_wp2_with (go_at_call 9; refine (awake_any _).mono ?_; rintro e w9 ⟨rfl, hg9⟩)
        go_ret
        exact ⟨rfl, (HG.out.trans hg8).trans hg9⟩
      · have hc0 : ((code : Int) == 0) = false := by simpa using h0
        clear hs1 hs2 hg
        go_wp2_with (go_at_call 9; refine (awake_any _).mono ?_; rintro e w9 ⟨rfl, hg9⟩)
        go_ret
        exact ⟨rfl, HG.out.trans hg9⟩
end Go.Proofs.Ytbpnkcjaekbcdaa
