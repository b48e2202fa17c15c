/-
  The document's own at, add, less, under, prime and mod over this program.
-/
import Derived.Test.YtnekdjejbobmoaaRpNum
import Derived.Test.YtnekdjejbobmoaaAppInts
import Derived.Test.YtnekdjejbobmoaaCopyGen
import Derived.Deep.Quiet
import Derived.Deep.QuietTactic
import Derived.BigQuiet
namespace Go.Proofs.Ytnekdjejbobmoaa
open Go.RowKit

theorem Rd.int1 (w : World) (x : Nat) : Rd (w.alloc (.cells #[.int .i64 (x : Int)] 3)) (.slice (some ⟨w.heap.size, 0, none⟩) 1 1) (intsV [x]) := Rd.one w _ 3
theorem own_int1 (w : World) (base x : Nat) (hb : base ≤ w.heap.size) : (w.alloc (.cells #[intV x] 3)).ownsRow base 3 1 (.slice (some ⟨w.heap.size, 0, none⟩) 1 1) 1 (intsV [x]) :=
  World.ownsRow_lit w #[intV x] 1 hb (by decide) rfl

set_option maxHeartbeats 2000000 in
theorem at_any (v : Value) (l : List Nat) (k : Nat) (w : World) (h : Rd w v (intsV l)) :
    Calls Try.prog 34 #[v, .int .i64 (k : Int)] w fun e w' => e = .returned (.int .i64 ((l.getD k 0 : Nat) : Int)) ∧ w' = w := by
  obtain ⟨A, c, rfl⟩ := h.form
  have hl := h.len
  rw [intsV_len] at *
  by_cases hk : k < l.length
  · obtain ⟨ad, rfl, hc⟩ := h.num k hk
    generalize l.getD k 0 = x at *
    generalize l.length = n at *
    clear h
    go_enter Try.func34, Try.ntmps34
    go_wp2
    go_ret
    exact ⟨rfl, rfl⟩
  · rw [getD_far0 l k (by omega)]
    have hd : decide ((k : Int) < (l.length : Int)) = false := by simp; omega
    generalize l.length = n at *
    clear h
    go_enter Try.func34, Try.ntmps34
    go_wp2
    go_ret
    exact ⟨rfl, rfl⟩

set_option maxHeartbeats 4000000 in
theorem add_any (v1 v2 : Value) (a b : List Nat) (x y m : Nat) (hm : m ≤ 100) (w : World) (h1 : Rd w v1 (intsV a)) (h2 : Rd w v2 (intsV b)) (ha : Dg a x) (hb : Dg b y) :
    Calls Try.prog 25 #[v1, v2, .int .i64 (m : Int)] w (OutI w (digs 256 m (x + y))) := by
  have H1 := Lib.hid h1
  have H2 := Lib.hid h2
  have HA := Lib.hid ha
  have HB := Lib.hid hb
  clear h1 h2 ha hb
  go_enter Try.func25, Try.ntmps25
  go_wp2
  go_loopw [7, 8, 9] (fun o q i W => ∃ k c : Nat, k ≤ m ∧ i = .int .i64 k ∧ q = .int .i64 (c : Int) ∧ c = car x y k ∧ W.ownsRow w.heap.size 3 1 o k (intsV (digs 256 k (x + y))) ∧ w.grownBy W none) (fun _ _ i _ => m - (intOf i).toNat)
  case atStart => exact ⟨0, 0, Nat.zero_le _, rfl, rfl, (car_zero _ _).symm, World.ownsRow_nil _ _ _ _, grown_refl _ _⟩
  case round =>
    obtain ⟨k, c, hk, rfl, rfl, hc, ho, hg⟩ := hrel
    have HO := Lib.hid ho
    have HG := Lib.hid hg
    clear ho hg
    by_cases hlt : k < m
    · have hst := car_step x y k
      have hc1 := car_le x y k
      rw [← hc] at hst hc1
      have C1 := Lib.hid (at_any v1 a k wr (H1.out.grown0 HG.out))
      have C2 := Lib.hid (at_any v2 b k wr (H2.out.grown0 HG.out))
      rw [HA.out k] at C1
      rw [HB.out k] at C2
      have hy : x / 256 ^ k % 256 < 256 := Nat.mod_lt _ (by decide)
      have hz : y / 256 ^ k % 256 < 256 := Nat.mod_lt _ (by decide)
      have HD := Lib.hid (digs_more 256 k (x + y))
      rw [← hst.1] at HD
      have HNX := Lib.hid hst.2
      generalize x / 256 ^ k % 256 = p at *
      generalize y / 256 ^ k % 256 = q at *
      have hdec : decide ((k : Int) < (m : Int)) = true := by simp; omega
      clear hst hc
      go_wp2_with (first
        | (go_at_call 34; refine C1.out.mono ?_; rintro e w1 ⟨rfl, hw⟩; obtain rfl := hw.symm; clear C1 hw)
        | (go_at_call 34; refine C2.out.mono ?_; rintro e w2 ⟨rfl, hw⟩; obtain rfl := hw.symm; clear C2 hw)
        | (at_builtin; refine wpList_append_ints _ rfl _ _ rfl w.heap.size _ k _ rfl (HO.out.alloc _) _ [(c + p + q) % 256] rfl ?_ ?_ ?_ ?_))
      · have := Rd.int1 wr ((c + p + q) % 256)
        rw [show (((c + p + q) % 256 : Nat) : Int) = ((p : Int) + (q : Int) + (c : Int)) % 256 by omega] at this
        exact this
      · simp; omega
      · have := HG.out.size; simp; omega
      · intro v' w' ho hg hat
        have HO' := Lib.hid ho
        have HG' := Lib.hid hg
        clear ho hg hat
        go_wp2
        go_roundw
        case rel =>
          refine ⟨k + 1, (c + p + q) / 256, by omega, by go_num, congrArg (Value.int .i64) (by omega), HNX.out, ?_, grown_new (grown_alloc HG.out _) HG'.out (fun b hb => (HO.out.lt b hb).1)⟩
          rw [HD.out, intsV_app]
          exact HO'.out
        case measure => simp [intOf]; omega
    · have hkm : k = m := by omega
      subst hkm
      have hdec : decide ((k : Int) < (k : Int)) = false := by simp
      clear hc hk hlt
      go_wp2
      go_ret
      exact ⟨_, rfl, Rd.of_own HO.out, HG.out⟩

set_option maxHeartbeats 4000000 in
theorem less_any (v1 v2 : Value) (b : List Nat) (x y n : Nat) (hn : n ≤ 100) (w : World) (h1 : Rd w v1 (intsV (digs 256 n x))) (h2 : Rd w v2 (intsV b)) (hb : Dg b y) (hxy : y ≤ x) :
    Calls Try.prog 33 #[v1, v2] w (OutI w (digs 256 n (x - y))) := by
  have H1 := Lib.hid h1
  have H2 := Lib.hid h2
  have HB := Lib.hid hb
  have HXY := Lib.hid hxy
  obtain ⟨A1, c1, rfl⟩ := h1.form
  have hc1 := h1.len.2
  rw [intsV_len, digs_len] at *
  unfold maxLen at hc1
  clear h1 h2 hb hxy
  go_enter Try.func33, Try.ntmps33
  go_wp2
  go_loopw [5, 6, 7] (fun o q i W => ∃ k c : Nat, k ≤ n ∧ i = .int .i64 k ∧ q = .int .i64 (c : Int) ∧ c = bor x y k ∧ W.ownsRow w.heap.size 3 1 o k (intsV (digs 256 k (x - y))) ∧ w.grownBy W none) (fun _ _ i _ => n - (intOf i).toNat)
  case atStart => exact ⟨0, 0, Nat.zero_le _, rfl, rfl, (bor_zero _ _).symm, World.ownsRow_nil _ _ _ _, grown_refl _ _⟩
  case round =>
    obtain ⟨k, c, hk, rfl, rfl, hc, ho, hg⟩ := hrel
    have HO := Lib.hid ho
    have HG := Lib.hid hg
    clear ho hg
    by_cases hlt : k < n
    · have hst := bor_step x y k HXY.out
      have hc1 := bor_le x y k
      rw [← hc] at hst hc1
      obtain ⟨ad1, rfl, cc1⟩ := (H1.out.grown0 HG.out).num k (by rw [digs_len]; exact hlt)
      rw [digs_at 256 n x k hlt] at cc1
      have C2 := Lib.hid (fun (W : World) (h : wr.grownBy W none) => at_any v2 b k W ((H2.out.grown0 HG.out).grown0 h))
      rw [HB.out k] at C2
      have hp8 : x / 256 ^ k % 256 < 256 := Nat.mod_lt _ (by decide)
      have hq8 : y / 256 ^ k % 256 < 256 := Nat.mod_lt _ (by decide)
      have HD := Lib.hid (digs_more 256 k (x - y))
      generalize (x - y) / 256 ^ k % 256 = u at *
      generalize x / 256 ^ k % 256 = p at *
      generalize y / 256 ^ k % 256 = q at *
      have hdec : decide ((k : Int) < (n : Int)) = true := by simp; omega
      clear hc
      by_cases hneg : p < q + c
      · obtain ⟨hu, hc'⟩ := hst.1 hneg
        have HU := Lib.hid (And.intro hu hc')
        have hng : (p : Int) - (q : Int) - (c : Int) < 0 := by omega
        clear hst hu hc'
        go_wp2
        go_quiet (first | (go_at_call 34; refine Calls.quiet_of_same (C2.out _ ?_); exact grown_drewN (grown_refl _ _) _))
        have HO2 := Lib.hid (show (wr.drewN nq).ownsRow w.heap.size 3 1 u5 k (intsV (digs 256 k (x - y))) from HO.out)
        have HG2 := Lib.hid (show w.grownBy (wr.drewN nq) none from grown_drewN HG.out _)
        generalize wr.drewN nq = W2 at *
        go_wp2_with (at_builtin; refine wpList_append_ints _ rfl _ _ rfl w.heap.size _ k _ rfl (HO2.out.alloc _) _ [u] rfl ?_ ?_ ?_ ?_)
        · have := Rd.int1 W2 u
          rw [show ((u : Nat) : Int) = (p : Int) - (q : Int) - (c : Int) + 256 by have := HU.out.1; omega] at this
          exact this
        · simp; omega
        · have := HG2.out.size; simp; omega
        · intro v' w' ho hg hat
          have HO' := Lib.hid ho
          have HG' := Lib.hid hg
          clear ho hg hat
          go_wp2
          go_roundw
          case rel =>
            refine ⟨k + 1, 1, by omega, by go_num, rfl, HU.out.2.symm, ?_, grown_new (grown_alloc HG2.out _) HG'.out (fun b hb => (HO2.out.lt b hb).1)⟩
            rw [HD.out, intsV_app]
            exact HO'.out
          case measure => simp [intOf]; omega
      · obtain ⟨hu, hc'⟩ := hst.2 hneg
        have HU := Lib.hid (And.intro hu hc')
        have hng : ¬ (p : Int) - (q : Int) - (c : Int) < 0 := by omega
        clear hst hu hc'
        go_wp2
        go_quiet (first | (go_at_call 34; refine Calls.quiet_of_same (C2.out _ ?_); exact grown_drewN (grown_refl _ _) _))
        have HO2 := Lib.hid (show (wr.drewN nq).ownsRow w.heap.size 3 1 u5 k (intsV (digs 256 k (x - y))) from HO.out)
        have HG2 := Lib.hid (show w.grownBy (wr.drewN nq) none from grown_drewN HG.out _)
        generalize wr.drewN nq = W2 at *
        go_wp2_with (at_builtin; refine wpList_append_ints _ rfl _ _ rfl w.heap.size _ k _ rfl (HO2.out.alloc _) _ [u] rfl ?_ ?_ ?_ ?_)
        · have := Rd.int1 W2 u
          rw [show ((u : Nat) : Int) = (p : Int) - (q : Int) - (c : Int) by have := HU.out.1; omega] at this
          exact this
        · simp; omega
        · have := HG2.out.size; simp; omega
        · intro v' w' ho hg hat
          have HO' := Lib.hid ho
          have HG' := Lib.hid hg
          clear ho hg hat
          go_wp2
          go_roundw
          case rel =>
            refine ⟨k + 1, 0, by omega, by go_num, rfl, HU.out.2.symm, ?_, grown_new (grown_alloc HG2.out _) HG'.out (fun b hb => (HO2.out.lt b hb).1)⟩
            rw [HD.out, intsV_app]
            exact HO'.out
          case measure => simp [intOf]; omega
    · have hkm : k = n := by omega
      subst hkm
      have hdec : decide ((k : Int) < (k : Int)) = false := by simp
      clear hc hk hlt
      go_wp2
      go_ret
      exact ⟨_, rfl, Rd.of_own HO.out, HG.out⟩

set_option maxHeartbeats 4000000 in
theorem under_any (v1 v2 : Value) (x y : Nat) (hx : x < 256 ^ 18) (hy : y < 256 ^ 17) (w : World) (h1 : Rd w v1 (intsV (digs 256 18 x))) (h2 : Rd w v2 (intsV (digs 256 17 y))) :
    Calls Try.prog 31 #[v1, v2] w fun e w' => e = .returned (.bool (decide (x < y))) ∧ w' = w := by
  have HD1 := Lib.hid (dg_digs 18 x hx)
  have HD2 := Lib.hid (dg_digs 17 y hy)
  have H1 := Lib.hid h1
  have H2 := Lib.hid h2
  obtain ⟨A1, c1, rfl⟩ := h1.form
  obtain ⟨A2, c2, rfl⟩ := h2.form
  rw [intsV_len, digs_len] at *
  have HX := Lib.hid (show x / 256 ^ 18 = y / 256 ^ 18 by rw [Nat.div_eq_of_lt hx, Nat.div_eq_of_lt (by omega)])
  clear h1 h2 hx hy
  go_enter Try.func31, Try.ntmps31
  go_wp2
  go_loop [5] (fun i => ∃ k : Nat, k ≤ 18 ∧ i = .int .i64 ((k : Int) - 1) ∧ x / 256 ^ k = y / 256 ^ k) (fun i => (intOf i + 1).toNat)
  case atStart => exact ⟨18, Nat.le_refl _, (by first | go_num | (simp [wrap64]) | (unfold wrap64; omega)), HX.out⟩
  case round =>
    obtain ⟨k, hk, rfl, hxy⟩ := hrel
    cases k with
    | zero =>
      have hq : decide ((0 : Int) ≤ ((0 : Nat) : Int) - 1) = false := by decide
      have HF := Lib.hid (show decide (x < y) = false by simp at hxy; simp [hxy])
      clear hxy
      go_wp2
      go_ret
      exact ⟨by rw [HF.out]; first | rfl | simp, rfl⟩
    | succ k =>
      have hq : (((k + 1 : Nat) : Int) - 1) = (k : Int) := by omega
      rw [hq] at *
      obtain ⟨s1, s2⟩ := same_down x y k hxy
      have C1 := Lib.hid (at_any _ (digs 256 18 x) k w H1.out)
      have C2 := Lib.hid (at_any _ (digs 256 17 y) k w H2.out)
      rw [HD1.out k] at C1
      rw [HD2.out k] at C2
      generalize x / 256 ^ k % 256 = p at *
      generalize y / 256 ^ k % 256 = q at *
      have S1 := Lib.hid s1
      have S2 := Lib.hid s2
      clear s1 s2 hxy hq
      by_cases hpq : p = q
      · subst hpq
        go_wp2_with (first
          | (go_at_call 34; refine C1.out.mono ?_; rintro e w1 ⟨rfl, hw⟩; obtain rfl := hw.symm; clear C1 hw)
          | (go_at_call 34; refine C2.out.mono ?_; rintro e w2 ⟨rfl, hw⟩; obtain rfl := hw.symm; clear C2 hw))
        go_round
        case rel => exact ⟨k, by omega, by go_num, S1.out (by first | rfl | trivial)⟩
        case measure => (simp [intOf]; try omega)
      · have hne : ((p : Int) != (q : Int)) = true := by simp; omega
        have C1' := Lib.hid C1.out
        have C2' := Lib.hid C2.out
        go_wp2_with (first
          | (go_at_call 34; refine C1.out.mono ?_; rintro e w1 ⟨rfl, hw⟩; obtain rfl := hw.symm; clear C1 hw)
          | (go_at_call 34; refine C2.out.mono ?_; rintro e w2 ⟨rfl, hw⟩; obtain rfl := hw.symm; clear C2 hw)
          | (go_at_call 34; refine C1'.out.mono ?_; rintro e w3 ⟨rfl, hw⟩; obtain rfl := hw.symm; clear C1' hw)
          | (go_at_call 34; refine C2'.out.mono ?_; rintro e w4 ⟨rfl, hw⟩; obtain rfl := hw.symm; clear C2' hw))
        go_ret
        exact ⟨by rw [S2.out hpq]; simp, rfl⟩

set_option maxHeartbeats 4000000 in
theorem prime_any (w : World) : Calls Try.prog 32 #[] w (OutI w (digs 256 17 PP)) := by
  rw [prime_digs]
  go_enter Try.func32, Try.ntmps32
  go_wp2
  go_loopw [1, 2] (fun o i W => ∃ k : Nat, k ≤ 15 ∧ i = .int .i64 ((k + 1 : Nat) : Int) ∧ W.ownsRow w.heap.size 3 1 o (k + 1) (intsV (251 :: List.replicate k 255)) ∧ w.grownBy W none) (fun _ i _ => 17 - (intOf i).toNat)
  case atStart => exact ⟨0, Nat.zero_le _, rfl, own_int1 w _ 251 (Nat.le_refl _), grown_alloc (grown_refl _ _) _⟩
  case round =>
    obtain ⟨k, hk, rfl, ho, hg⟩ := hrel
    have HO := Lib.hid ho
    have HG := Lib.hid hg
    clear ho hg
    by_cases hlt : k < 15
    · have hdec : decide (((k + 1 : Nat) : Int) < 16) = true := by simp; omega
      generalize hi : k + 1 = i at *
      go_wp2_with (at_builtin; refine wpList_append_ints _ rfl _ _ rfl w.heap.size _ i _ rfl (HO.out.alloc _) _ [255] rfl (Rd.int1 wr 255) ?_ ?_ ?_)
      · simp; omega
      · have := HG.out.size; simp; omega
      · intro v' w' ho hg hat
        have HO' := Lib.hid ho
        have HG' := Lib.hid hg
        clear ho hg hat
        go_wp2
        go_roundw
        case rel =>
          refine ⟨k + 1, by omega, congrArg (Value.int .i64) (by omega), ?_, grown_new (grown_alloc HG.out _) HG'.out (fun b hb => (HO.out.lt b hb).1)⟩
          rw [List.replicate_succ', show (251 :: (List.replicate k 255 ++ [255])) = (251 :: List.replicate k 255) ++ [255] from rfl, intsV_app, show k + 1 + 1 = i + 1 by omega]
          exact HO'.out
        case measure => simp [intOf]; omega
    · obtain rfl : k = 15 := by omega
      clear hk hlt
      go_wp2_with (at_builtin; refine wpList_append_ints _ rfl _ _ rfl w.heap.size _ 16 _ rfl (HO.out.alloc _) _ [3] rfl (Rd.int1 wr 3) ?_ ?_ ?_)
      · simp
      · have := HG.out.size; simp; omega
      · intro v' w' ho hg hat
        have HR' := Lib.hid (Rd.of_own ho)
        have HG' := Lib.hid (grown_new (grown_alloc HG.out _) hg (fun b hb => (HO.out.lt b hb).1))
        clear ho hg hat
        go_wp2
        go_ret
        exact ⟨_, rfl, HR'.out, HG'.out⟩

/-- The number that a row of digits reads as, in a world. -/
def rdNum (u : Value) (W : World) : Nat := match u with
  | .slice (some ad) n _ => val 256 ((List.range n).map fun j => match W.cell? (ad.add j) with
    | some (.int _ z) => z.toNat
    | _ => 0)
  | _ => 0
theorem rdNum_eq {u : Value} {W : World} {x : Nat} (hx : x < 256 ^ 18) (h : Rd W u (intsV (digs 256 18 x))) : rdNum u W = x := by
  obtain ⟨A, c, rfl⟩ := h.form
  have hl := h.len.1
  obtain ⟨ad, rfl, hc⟩ := h.cells (by intro e; have := congrArg List.length e; rw [intsV_len, digs_len] at this; simp at this)
  have e : ((List.range (intsV (digs 256 18 x)).length).map fun j => match W.cell? (ad.add j) with
    | some (.int _ z) => z.toNat
    | _ => 0) = digs 256 18 x := by
    apply List.ext_getElem?
    intro j
    rw [intsV_len, digs_len]
    by_cases hj : j < 18
    · rw [List.getElem?_map, List.getElem?_range hj, digs_at? 256 18 x j hj, Option.map_some]
      have := hc j _ (intsV_at _ j (by rw [digs_len]; exact hj))
      rw [this, digs_at 256 18 x j hj]
      exact congrArg some (Int.toNat_natCast _)
    · rw [List.getElem?_eq_none (by simp; omega), List.getElem?_eq_none (by rw [digs_len]; omega)]
  unfold rdNum
  simp only
  rw [e, val_digs, Nat.mod_eq_of_lt hx]

set_option maxHeartbeats 4000000 in
theorem mod_any (v : Value) (x : Nat) (hx : x < 256 ^ 18) (w : World) (h : Rd w v (intsV (digs 256 18 x))) :
    Calls Try.prog 24 #[v] w (OutI w (digs 256 18 (x % PP))) := by
  have H := Lib.hid h
  have HX := Lib.hid hx
  clear h hx
  go_enter Try.func24, Try.ntmps24
  go_wp2
  go_loopw [0] (fun u W => ∃ y : Nat, y < 256 ^ 18 ∧ y % PP = x % PP ∧ Rd W u (intsV (digs 256 18 y)) ∧ w.grownBy W none) (fun u W => rdNum u W)
  case atStart => exact ⟨x, HX.out, rfl, H.out, grown_refl _ _⟩
  case round =>
    obtain ⟨y, hy, hyx, hu, hg⟩ := hrel
    have HU := Lib.hid hu
    have HG := Lib.hid hg
    have HYX := Lib.hid hyx
    have HY := Lib.hid hy
    have HNUM := Lib.hid (rdNum_eq hy hu)
    clear hu hg hyx hy
    go_wp2_with fail
    refine (prime_any _).mono ?_
    rintro e w1 ⟨p, rfl, hp, hg1⟩
    have HU1 := Lib.hid (HU.out.grown0 hg1)
    have HP := Lib.hid hp
    have HG1 := Lib.hid (HG.out.trans hg1)
    clear hp hg1 HU HG
    have CU := Lib.hid (under_any _ _ y PP HY.out (by decide) w1 HU1.out HP.out)
    by_cases hlt : y < PP
    · have hd : decide (y < PP) = true := by simpa using hlt
      rw [hd] at CU
      have HR := Lib.hid (show y = x % PP by rw [← HYX.out, Nat.mod_eq_of_lt hlt])
      clear hd hlt
      go_wp2_with fail
      refine CU.out.mono ?_
      rintro e w2 ⟨rfl, hw⟩
      obtain rfl := hw.symm
      clear hw CU
      go_wp2
      go_ret
      exact ⟨_, rfl, by rw [← HR.out]; exact HU1.out, HG1.out⟩
    · have hd : decide (y < PP) = false := by simpa using hlt
      rw [hd] at CU
      have HGE := Lib.hid hlt
      clear hd hlt
      go_wp2_with fail
      refine CU.out.mono ?_
      rintro e w2 ⟨rfl, hw⟩
      obtain rfl := hw.symm
      clear hw CU
      go_wp2_with fail
      refine (prime_any _).mono ?_
      rintro e w3 ⟨p3, rfl, hp3, hg3⟩
      have HU3 := Lib.hid (HU1.out.grown0 hg3)
      have HP3 := Lib.hid hp3
      have HG3 := Lib.hid (HG1.out.trans hg3)
      clear hp3 hg3 HU1 HG1 HP
      go_wp2_with fail
      refine (less_any _ _ (digs 256 17 PP) y PP 18 (by decide) w3 HU3.out HP3.out (dg_digs 17 PP (by decide)) (by have := HGE.out; omega)).mono ?_
      rintro e w4 ⟨u4, rfl, hr4, hg4⟩
      have HR4 := Lib.hid hr4
      have HG4 := Lib.hid (HG3.out.trans hg4)
      clear hr4 hg4 HU3 HP3 HG3
      go_wp2
      go_roundw
      case rel =>
        have h1 := HGE.out
        have h2 := HY.out
        exact ⟨y - PP, by omega, by rw [← HYX.out, ← Nat.mod_eq_sub_mod (by omega)], HR4.out, HG4.out⟩
      case measure =>
        have h1 := HGE.out
        have h2 := HY.out
        rw [HNUM.out, rdNum_eq (x := y - PP) (by omega) HR4.out]
        have : 0 < PP := by decide
        omega
end Go.Proofs.Ytnekdjejbobmoaa
