/-
  The walk of the law DeriveLess.
-/
import Derived.Test.YtmhcfbfdbminnaaDoorDerOps
namespace Go.Proofs.YtmhcfbfdbminnaaDoor
open Go.RowKit

section
variable {o : Oper} {a : Act} {w : World}
theorem ex_len {x : Operand} {A : Option Addr} {n c : Nat} (h : o.op = .call { callee := .builtin .len, args := #[x], argTypes := #[22] }) (hx : Is (.slice A n c) (a.eval x) w) : (execOp a.eval o).run Tryd.prog w = .ok (.value (.int .i64 (n : Int))) w := by
  have hx' : a.eval x = .slice A n c := hx
  simp only [execOp, h, resolve, invoke, builtin, List.map_toArray, List.map_cons, List.map_nil, hx']
  simp [go_sem]
theorem ex_eqn {x y : Operand} {t : TypeId} {n : Int} (h : o.op = .binOp .eql 3 x y t) (hx : Is (.int .i64 n) (a.eval x) w) (hy : Is (.int .i64 n) (a.eval y) w) : (execOp a.eval o).run Tryd.prog w = .ok (.value (.bool true)) w := by
  have hx' : a.eval x = .int .i64 n := hx
  have hy' : a.eval y = .int .i64 n := hy
  simp only [execOp, h, hx', hy']
  simp [go_sem]
theorem ex_sliceTo {x y : Operand} {ad : Addr} {n c k : Nat} (h : o.op = .slice 22 x none (some y) none) (hx : Is (.slice (some ad) n c) (a.eval x) w) (hy : Is (.int .i64 (k : Int)) (a.eval y) w) (hk : k ≤ c) : (execOp a.eval o).run Tryd.prog w = .ok (.value (.slice (some ad) k c)) w := by
  have hx' : a.eval x = .slice (some ad) n c := hx
  have hy' : a.eval y = .int .i64 (k : Int) := hy
  have h1 : (k : Int) ≤ (c : Int) := by omega
  simp only [execOp, h, hx', hy', Option.map_some, Option.map_none]
  simp [go_sem, h1]
end

set_option maxHeartbeats 4000000 in
theorem deriveLess_walk (A0 : Option Addr) (n0 c0 : Nat) (l0 : List UInt8) (A1 : Option Addr) (n1 c1 : Nat) (l1 : List UInt8) (A2 : Option Addr) (n2 c2 : Nat) (l2 : List UInt8) (x y : Int) (w : World) (hT : Tab w) (hr0 : Rd w (.slice A0 n0 c0) (bytesV l0)) (hr1 : Rd w (.slice A1 n1 c1) (bytesV l1)) (hr2 : Rd w (.slice A2 n2 c2) (bytesV l2)) :
    Calls Tryd.prog 6 #[.slice A0 n0 c0, .slice A1 n1 c1, .slice A2 n2 c2, .int .i64 x, .int .i64 y] w (Awake w) := by
  have HR0 := Lib.hid hr0
  have HR1 := Lib.hid hr1
  have HR2 := Lib.hid hr2
  have HT := Lib.hid hT
  clear hr0 hr1 hr2 hT
  by_cases ha : 100 < n0
  · have ba : decide (100 < (n0 : Int)) = true := by simp; omega
    go_enter Tryd.func6, Tryd.ntmps6
    go_wp2_with fail
    refine (awake_any _ HT.out).mono ?_
    rintro e w1 ⟨rfl, hg1⟩
    go_wp2
    go_ret
    exact ⟨rfl, hg1⟩
  · have ba : decide (100 < (n0 : Int)) = false := by simp; omega
    by_cases hb : 100 < n1
    · have bb : decide (100 < (n1 : Int)) = true := by simp; omega
      go_enter Tryd.func6, Tryd.ntmps6
      go_wp2_with fail
      refine (awake_any _ HT.out).mono ?_
      rintro e w1 ⟨rfl, hg1⟩
      go_wp2
      go_ret
      exact ⟨rfl, hg1⟩
    · have bb : decide (100 < (n1 : Int)) = false := by simp; omega
      by_cases hc : 100 < n2
      · have bc : decide (100 < (n2 : Int)) = true := by simp; omega
        go_enter Tryd.func6, Tryd.ntmps6
        go_wp2_with fail
        refine (awake_any _ HT.out).mono ?_
        rintro e w1 ⟨rfl, hg1⟩
        go_wp2
        go_ret
        exact ⟨rfl, hg1⟩
      · have bc : decide (100 < (n2 : Int)) = false := by simp; omega
        by_cases hd : x < 0
        · have bd : decide (x < 0) = true := by simp; omega
          go_enter Tryd.func6, Tryd.ntmps6
          go_wp2_with fail
          refine (awake_any _ HT.out).mono ?_
          rintro e w1 ⟨rfl, hg1⟩
          go_wp2
          go_ret
          exact ⟨rfl, hg1⟩
        · have bd : decide (x < 0) = false := by simp; omega
          by_cases he : y < x
          · have be : decide (y < x) = true := by simp; omega
            go_enter Tryd.func6, Tryd.ntmps6
            go_wp2_with fail
            refine (awake_any _ HT.out).mono ?_
            rintro e w1 ⟨rfl, hg1⟩
            go_wp2
            go_ret
            exact ⟨rfl, hg1⟩
          · have be : decide (y < x) = false := by simp; omega
            by_cases hf : 300 < y
            · have bf : decide (300 < y) = true := by simp; omega
              go_enter Tryd.func6, Tryd.ntmps6
              go_wp2_with fail
              refine (awake_any _ HT.out).mono ?_
              rintro e w1 ⟨rfl, hg1⟩
              go_wp2
              go_ret
              exact ⟨rfl, hg1⟩
            · have bf : decide (300 < y) = false := by simp; omega
              obtain ⟨n, rfl⟩ := Int.eq_ofNat_of_zero_le (show 0 ≤ x by omega)
              obtain ⟨m, rfl⟩ := Int.eq_ofNat_of_zero_le (show 0 ≤ y by omega)
              have HN := Lib.hid (show n0 ≤ 100 ∧ n1 ≤ 100 ∧ n2 ≤ 100 ∧ n ≤ m ∧ m ≤ 300 by omega)
              clear ha hb hc hd he hf
              have hnm : n ≤ m := HN.out.2.2.2.1
              have HK1 := Lib.hid (key_at A0 n0 c0 l0 A1 n1 c1 l1 A2 n2 c2 l2 n w HT.out HR0.out HR1.out HR2.out (by have := HN.out; omega) (by have := HN.out; omega) (by have := HN.out; omega) (by have := HN.out; omega))
              go_enter Tryd.func6, Tryd.ntmps6
              go_wp2_with fail
              refine HK1.out.mono ?_
              rintro e w1 ⟨g1, rfl, hk1, hg1, _, _⟩
              have HK2 := Lib.hid (key_at A0 n0 c0 l0 A1 n1 c1 l1 A2 n2 c2 l2 m w1 (HT.out.grown hg1) (HR0.out.grown0 hg1) (HR1.out.grown0 hg1) (HR2.out.grown0 hg1) (by have := HN.out; omega) (by have := HN.out; omega) (by have := HN.out; omega) (by have := HN.out; omega))
              have RK1 := Lib.hid hk1
              have HG1 := Lib.hid hg1
              clear hk1 hg1 HK1
              go_wp2_with fail
              refine HK2.out.mono ?_
              rintro e w2 ⟨g2, rfl, hk2, hg2, _, _⟩
              have hless := derived_less l0 l1 l2 n m HN.out.2.2.2.1
              have hk1 := RK1.out.grown0 hg2
              have HGR := Lib.hid (HG1.out.trans hg2)
              have hd1 := derived_len l0 l1 l2 n
              have hd2 := derived_len l0 l1 l2 m
              generalize derived l0 l1 l2 n = X at *
              generalize derived l0 l1 l2 m = Y at *
              rw [hd1] at hk1
              rw [hd2] at hk2
              rw [hd1, hd2]
              have R1 := Lib.hid hk1
              have R2 := Lib.hid hk2
              have HLESS := Lib.hid hless
              clear hk1 hk2 hless hd1 hd2 RK1 HG1 HK2 hg2
              go_wp2_with fail
              refine wp_region_steps none (by kernel_rfl) (by kernel_rfl) (by kernel_rfl) ?_
              refine Steps.val (G := Is (.slice (some ⟨g1, 0, none⟩) n n)) (lasts_is _) rfl (fun a w hm hd => ⟨wanted_plain rfl, _, ex_move rfl, (by rw [hm.outer 11 (by kernel_rfl)]; exact rfl)⟩) ?_
              refine Steps.val (G := Is (.int .i64 (n : Int))) (lasts_is _) rfl (fun a w hm hd => ⟨wanted_plain rfl, _, ex_len rfl (hd.at_ 0 rfl rfl rfl), rfl⟩) ?_
              refine Steps.val (G := Is (.int .i64 (n : Int))) (lasts_is _) rfl (fun a w hm hd => ⟨wanted_plain rfl, _, ex_move rfl, (by rw [hm.outer 3 (by kernel_rfl)]; exact rfl)⟩) ?_
              refine Steps.val (G := Is (.bool true)) (lasts_is _) rfl (fun a w hm hd => ⟨wanted_plain rfl, _, ex_eqn rfl (hd.at_ 1 rfl rfl rfl) (hd.at_ 2 rfl rfl rfl), rfl⟩) ?_
              refine Steps.val (G := Is (.bool true)) (lasts_is _) rfl (fun a w hm hd => ⟨wanted_plain rfl, _, ex_move rfl, hd.at_ 3 rfl rfl rfl⟩) ?_
              refine Steps.val (G := Is (.slice (some ⟨g2, 0, none⟩) m m)) (lasts_is _) rfl (fun a w hm hd => ⟨wanted_at rfl rfl (hd.at_ 4 rfl rfl rfl), _, ex_move rfl, (by rw [hm.outer 12 (by kernel_rfl)]; exact rfl)⟩) ?_
              refine Steps.val (G := Is (.int .i64 (m : Int))) (lasts_is _) rfl (fun a w hm hd => ⟨wanted_at rfl rfl (hd.at_ 4 rfl rfl rfl), _, ex_len rfl (hd.at_ 5 rfl rfl rfl), rfl⟩) ?_
              refine Steps.val (G := Is (.int .i64 (m : Int))) (lasts_is _) rfl (fun a w hm hd => ⟨wanted_at rfl rfl (hd.at_ 4 rfl rfl rfl), _, ex_move rfl, (by rw [hm.outer 4 (by kernel_rfl)]; exact rfl)⟩) ?_
              refine Steps.val (G := Is (.bool true)) (lasts_is _) rfl (fun a w hm hd => ⟨wanted_at rfl rfl (hd.at_ 4 rfl rfl rfl), _, ex_eqn rfl (hd.at_ 6 rfl rfl rfl) (hd.at_ 7 rfl rfl rfl), rfl⟩) ?_
              refine Steps.val (G := Is (.bool true)) (lasts_is _) rfl (fun a w hm hd => ⟨wanted_plain rfl, _, ex_pick rfl (hd.at_ 4 rfl rfl rfl) (hd.at_ 8 rfl rfl rfl), rfl⟩) ?_
              refine Steps.val (G := Is (.bool true)) (lasts_is _) rfl (fun a w hm hd => ⟨wanted_plain rfl, _, ex_move rfl, hd.at_ 9 rfl rfl rfl⟩) ?_
              refine Steps.val (G := IsB X) (lasts_bytes _) rfl (fun a w hm hd => ⟨wanted_at rfl rfl (hd.at_ 10 rfl rfl rfl), _, ex_move rfl, (by rw [hm.outer 11 (by kernel_rfl)]; exact R1.out.grown0 hm.grow)⟩) ?_
              refine Steps.val (G := Is (.string ⟨X.toArray⟩)) (lasts_is _) rfl (fun a w hm hd => ⟨wanted_at rfl rfl (hd.at_ 10 rfl rfl rfl), _, ex_str rfl (hd.at_ 11 rfl rfl rfl), rfl⟩) ?_
              refine Steps.val (G := Is (.slice (some ⟨g2, 0, none⟩) m m)) (lasts_is _) rfl (fun a w hm hd => ⟨wanted_at rfl rfl (hd.at_ 10 rfl rfl rfl), _, ex_move rfl, (by rw [hm.outer 12 (by kernel_rfl)]; exact rfl)⟩) ?_
              refine Steps.val (G := Is (.int .i64 (n : Int))) (lasts_is _) rfl (fun a w hm hd => ⟨wanted_at rfl rfl (hd.at_ 10 rfl rfl rfl), _, ex_move rfl, (by rw [hm.outer 3 (by kernel_rfl)]; exact rfl)⟩) ?_
              refine Steps.val (G := IsB X) (lasts_bytes _) rfl (fun a w hm hd => ⟨wanted_at rfl rfl (hd.at_ 10 rfl rfl rfl), _, ex_sliceTo rfl (hd.at_ 13 rfl rfl rfl) (hd.at_ 14 rfl rfl rfl) HN.out.2.2.2.1, (by have h := (R2.out.grown0 hm.grow).take (n := n) (d := m) HN.out.2.2.2.1 HN.out.2.2.2.1 (Nat.le_refl _); unfold IsB; rw [← HLESS.out]; simpa [bytesV, List.map_take] using h)⟩) ?_
              refine Steps.val (G := Is (.string ⟨X.toArray⟩)) (lasts_is _) rfl (fun a w hm hd => ⟨wanted_at rfl rfl (hd.at_ 10 rfl rfl rfl), _, ex_str rfl (hd.at_ 15 rfl rfl rfl), rfl⟩) ?_
              refine Steps.val (G := Is (.bool true)) (lasts_is _) rfl (fun a w hm hd => ⟨wanted_at rfl rfl (hd.at_ 10 rfl rfl rfl), _, ex_eqs rfl (hd.at_ 12 rfl rfl rfl) (hd.at_ 16 rfl rfl rfl), rfl⟩) ?_
              refine Steps.val (G := Is (.bool true)) (lasts_is _) rfl (fun a w hm hd => ⟨wanted_plain rfl, _, ex_pick rfl (hd.at_ 10 rfl rfl rfl) (hd.at_ 17 rfl rfl rfl), rfl⟩) ?_
              refine Steps.val (G := Is (.bool true)) (lasts_is _) rfl (fun a w hm hd => ⟨wanted_plain rfl, _, ex_move rfl, hd.at_ 18 rfl rfl rfl⟩) ?_
              refine Steps.call (G := Is (.bool true)) (lasts_is _) rfl 10 (fun a w hm hd => ⟨wanted_at rfl rfl (hd.at_ 19 rfl rfl rfl), _, ex_call0 Tryd.func10 (by kernel_rfl) (by kernel_rfl) rfl, by
                refine (awake_any w (HT.out.grown (HGR.out.trans hm.grow))).mono ?_
                rintro e w' ⟨rfl, hg⟩
                exact ⟨_, rfl, hg, rfl⟩⟩) ?_
              refine Steps.val (G := Is (.bool true)) (lasts_is _) rfl (fun a w hm hd => ⟨wanted_plain rfl, _, ex_pick rfl (hd.at_ 19 rfl rfl rfl) (hd.at_ 20 rfl rfl rfl), rfl⟩) ?_
              refine Steps.val (G := Is (.bool true)) (lasts_is _) rfl (fun a w hm hd => ⟨wanted_plain rfl, _, ex_assign rfl, hd.at_ 21 rfl rfl rfl⟩) ?_
              intro a w2 hmid hall
              have h2 : a.eval (.tmp 10) = .bool true := hall 22 _ 10 rfl rfl
              have hdf : a.defers = [] := hmid.defers
              have hgr := hmid.grow
              clear hall hmid
              obtain ⟨tm, df⟩ := a
              simp only at hdf
              subst hdf
              go_wp2
              go_ret
              exact ⟨congrArg Ending.returned h2, HGR.out.trans hgr⟩
end Go.Proofs.YtmhcfbfdbminnaaDoor
