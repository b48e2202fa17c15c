/-
  Several texts in one file.
-/
import Derived.Test.YtjcbdplbekecjaaPolBytes
import Derived.Test.YtjcbdplbekecjaaAppInts
import Derived.Test.YtjcbdplbekecjaaCopyGen
import Derived.Deep.Quiet
import Derived.Deep.QuietTactic
import Derived.BigQuiet
/-
  Numbers as rows of bytes, digit by digit, of no program: sums, differences, which is less.
-/
namespace Go.Proofs.Ytjcbdplbekecjaa

/-- A row has the digits of a number, noughts behind it. -/
def Dg (a : List Nat) (x : Nat) : Prop := ∀ k, a.getD k 0 = x / 256 ^ k % 256
theorem dg_digs (n x : Nat) (h : x < 256 ^ n) : Dg (digs 256 n x) x := by
  intro k
  by_cases hk : k < n
  · exact digs_at 256 n x k hk
  · rw [getD_far0 _ _ (by rw [digs_len]; omega), Nat.div_eq_of_lt (Nat.lt_of_lt_of_le h (Nat.pow_le_pow_right (by decide) (by omega)))]
theorem dg_lt {a : List Nat} {x : Nat} (h : Dg a x) (k : Nat) : a.getD k 0 < 256 := by rw [h k]; exact Nat.mod_lt _ (by decide)
/-- What is borrowed, ahead of place k. -/
def bor (x y k : Nat) : Nat := if x % 256 ^ k < y % 256 ^ k then 1 else 0
theorem bor_zero (x y : Nat) : bor x y 0 = 0 := by unfold bor; simp [Nat.mod_one]
theorem bor_le (x y k : Nat) : bor x y k ≤ 1 := by unfold bor; split <;> omega
theorem bor_div (x y k : Nat) (h : y ≤ x) : (x - y) / 256 ^ k = x / 256 ^ k - y / 256 ^ k - bor x y k ∧ y / 256 ^ k + bor x y k ≤ x / 256 ^ k := by
  have hp : 0 < 256 ^ k := Nat.pow_pos (by decide)
  have e1 := Nat.div_add_mod x (256 ^ k)
  have e2 := Nat.div_add_mod y (256 ^ k)
  have l1 := Nat.mod_lt x hp
  have l2 := Nat.mod_lt y hp
  unfold bor
  generalize x % 256 ^ k = a at *
  generalize y % 256 ^ k = b at *
  generalize x / 256 ^ k = X at *
  generalize y / 256 ^ k = Y at *
  generalize 256 ^ k = p at *
  split
  · have hXY : Y + 1 ≤ X := by
      rcases Nat.lt_or_ge Y X with h1 | h1
      · exact h1
      · have := Nat.mul_le_mul_left p h1
        omega
    refine ⟨?_, hXY⟩
    have hm := Nat.mul_le_mul_left p hXY
    rw [Nat.mul_add, Nat.mul_one] at hm
    have e : x - y = (p + a - b) + p * (X - Y - 1) := by
      rw [Nat.mul_sub, Nat.mul_sub, Nat.mul_one]
      omega
    rw [e, Nat.add_mul_div_left _ _ hp, Nat.div_eq_of_lt (by omega), Nat.zero_add]
  · have hXY : Y ≤ X := by
      rcases Nat.lt_or_ge X Y with h1 | h1
      · have := Nat.mul_le_mul_left p h1
        rw [Nat.succ_eq_add_one, Nat.mul_add, Nat.mul_one] at this
        omega
      · exact h1
    refine ⟨?_, hXY⟩
    have hm := Nat.mul_le_mul_left p hXY
    have e : x - y = (a - b) + p * (X - Y) := by
      rw [Nat.mul_sub]
      omega
    rw [e, Nat.add_mul_div_left _ _ hp, Nat.div_eq_of_lt (by omega), Nat.zero_add, Nat.sub_zero]
theorem bor_next (x y k : Nat) : bor x y (k + 1) = if x / 256 ^ k % 256 < y / 256 ^ k % 256 + bor x y k then 1 else 0 := by
  have hp : 0 < 256 ^ k := Nat.pow_pos (by decide)
  have l1 := Nat.mod_lt x hp
  have l2 := Nat.mod_lt y hp
  unfold bor
  rw [Nat.mod_pow_succ, Nat.mod_pow_succ]
  generalize x % 256 ^ k = a at *
  generalize y % 256 ^ k = b at *
  generalize x / 256 ^ k % 256 = X at *
  generalize y / 256 ^ k % 256 = Y at *
  generalize 256 ^ k = p at *
  rcases Nat.lt_trichotomy X Y with h | h | h
  · have := Nat.mul_le_mul_left p h
    rw [Nat.succ_eq_add_one, Nat.mul_add, Nat.mul_one] at this
    rw [if_pos (show a + p * X < b + p * Y by omega)]
    split <;> rw [if_pos (by omega)]
  · subst h
    by_cases hab : a < b
    · rw [if_pos (show a + p * X < b + p * X by omega), if_pos hab, if_pos (by omega)]
    · rw [if_neg (show ¬ a + p * X < b + p * X by omega), if_neg hab, if_neg (by omega)]
  · have := Nat.mul_le_mul_left p h
    rw [Nat.succ_eq_add_one, Nat.mul_add, Nat.mul_one] at this
    rw [if_neg (show ¬ a + p * X < b + p * Y by omega)]
    split <;> rw [if_neg (by omega)]
/-- One digit of a difference. -/
theorem bor_step (x y k : Nat) (h : y ≤ x) :
    (x / 256 ^ k % 256 < y / 256 ^ k % 256 + bor x y k → (x - y) / 256 ^ k % 256 = x / 256 ^ k % 256 + 256 - (y / 256 ^ k % 256 + bor x y k) ∧ bor x y (k + 1) = 1) ∧
    (¬ x / 256 ^ k % 256 < y / 256 ^ k % 256 + bor x y k → (x - y) / 256 ^ k % 256 = x / 256 ^ k % 256 - (y / 256 ^ k % 256 + bor x y k) ∧ bor x y (k + 1) = 0) := by
  have h1 := bor_div x y k h
  have h2 := bor_next x y k
  have h3 := bor_le x y k
  rw [h1.1]
  generalize bor x y k = c at *
  generalize x / 256 ^ k = X at *
  generalize y / 256 ^ k = Y at *
  constructor
  · intro hlt
    rw [if_pos hlt] at h2
    exact ⟨by omega, h2⟩
  · intro hlt
    rw [if_neg hlt] at h2
    exact ⟨by omega, h2⟩
/-- Numbers whose upper digits are the same. -/
theorem same_down (x y k : Nat) (h : x / 256 ^ (k + 1) = y / 256 ^ (k + 1)) :
    (x / 256 ^ k % 256 = y / 256 ^ k % 256 → x / 256 ^ k = y / 256 ^ k) ∧ (x / 256 ^ k % 256 ≠ y / 256 ^ k % 256 → decide (x < y) = decide (x / 256 ^ k % 256 < y / 256 ^ k % 256)) := by
  rw [Nat.pow_succ, ← Nat.div_div_eq_div_mul, ← Nat.div_div_eq_div_mul] at h
  refine ⟨fun he => by omega, fun hne => ?_⟩
  have key : x < y ↔ x / 256 ^ k < y / 256 ^ k := by
    constructor
    · intro hxy
      have := Nat.div_le_div_right (c := 256 ^ k) (Nat.le_of_lt hxy)
      omega
    · exact fun h => Nat.lt_of_div_lt_div h
  rw [decide_eq_decide, key]
  omega
theorem take_digs (n m v : Nat) (h : m ≤ n) : (digs 256 n v).take m = digs 256 m v := by
  apply List.ext_getElem?
  intro i
  rw [List.getElem?_take]
  by_cases hi : i < m
  · rw [if_pos hi, digs_at? 256 n v i (by omega), digs_at? 256 m v i hi]
  · rw [if_neg hi, List.getElem?_eq_none (by rw [digs_len]; omega)]
theorem digs_up (n v : Nat) : 0 :: digs 256 n v = digs 256 (n + 1) (256 * v) := by
  simp only [digs]
  rw [Nat.mul_mod_right, Nat.mul_div_cancel_left _ (by decide)]
theorem prime_digs : digs 256 17 PP = [251, 255, 255, 255, 255, 255, 255, 255, 255, 255, 255, 255, 255, 255, 255, 255, 3] := by decide
theorem le_step (r : List UInt8) (k : Nat) (h : k < r.length) : le (r.drop k) = (r.getD k 0).toNat + 256 * le (r.drop (k + 1)) := by
  have := val_drop 256 (byt r) k (by rw [byt_len]; exact h)
  rw [byt_getD] at this
  unfold le
  rw [show byt (r.drop k) = (byt r).drop k by simp [byt, List.map_drop], show byt (r.drop (k + 1)) = (byt r).drop (k + 1) by simp [byt, List.map_drop], this]
theorem mod_shift (a L q : Nat) : (256 * (a * L % PP) % PP + q * a) % PP = a * (q + 256 * L) % PP := by
  rw [Nat.mod_add_mod, Nat.mul_add, Nat.add_comm (a * q), Nat.mul_comm a q, Nat.mul_left_comm a 256 L, ← Nat.mod_add_mod, ← Nat.mod_add_mod (256 * (a * L)), Nat.mul_mod 256 (a * L % PP), Nat.mod_mod, ← Nat.mul_mod]
end Go.Proofs.Ytjcbdplbekecjaa

/-
  The document's own at, add, less, under, prime and mod over this program.
-/
namespace Go.Proofs.Ytjcbdplbekecjaa
open Go.RowKit

theorem Rd.int1 (w : World) (x : Nat) : Rd (w.alloc (.cells #[.int .i64 (x : Int)] 3)) (.slice (some ⟨w.heap.size, 0, none⟩) 1 1) (intsV [x]) := Rd.one w _ 3
theorem own_int1 (w : World) (base x : Nat) (hb : base ≤ w.heap.size) : (w.alloc (.cells #[intV x] 3)).ownsRow base 3 1 (.slice (some ⟨w.heap.size, 0, none⟩) 1 1) 1 (intsV [x]) :=
  World.ownsRow_lit w #[intV x] 1 hb (by decide) rfl

set_option maxHeartbeats 2000000 in
theorem at_any (v : Value) (l : List Nat) (k : Nat) (w : World) (h : Rd w v (intsV l)) :
    Calls Try.prog 52 #[v, .int .i64 (k : Int)] w fun e w' => e = .returned (.int .i64 ((l.getD k 0 : Nat) : Int)) ∧ w' = w := by
  obtain ⟨A, c, rfl⟩ := h.form
  have hl := h.len
  rw [intsV_len] at *
  by_cases hk : k < l.length
  · obtain ⟨ad, rfl, hc⟩ := h.num k hk
    generalize l.getD k 0 = x at *
    generalize l.length = n at *
    clear h
    go_enter Try.func52, Try.ntmps52
    go_wp2
    go_ret
    exact ⟨rfl, rfl⟩
  · rw [getD_far0 l k (by omega)]
    have hd : decide ((k : Int) < (l.length : Int)) = false := by simp; omega
    generalize l.length = n at *
    clear h
    go_enter Try.func52, Try.ntmps52
    go_wp2
    go_ret
    exact ⟨rfl, rfl⟩

set_option maxHeartbeats 4000000 in
theorem add_any (v1 v2 : Value) (a b : List Nat) (x y m : Nat) (hm : m ≤ 100) (w : World) (h1 : Rd w v1 (intsV a)) (h2 : Rd w v2 (intsV b)) (ha : Dg a x) (hb : Dg b y) :
    Calls Try.prog 32 #[v1, v2, .int .i64 (m : Int)] w (OutI w (digs 256 m (x + y))) := by
  have H1 := Lib.hid h1
  have H2 := Lib.hid h2
  have HA := Lib.hid ha
  have HB := Lib.hid hb
  clear h1 h2 ha hb
  go_enter Try.func32, Try.ntmps32
  go_wp2
  go_loopw [7, 8, 9] (fun o q i W => ∃ k c : Nat, k ≤ m ∧ i = .int .i64 k ∧ q = .int .i64 (c : Int) ∧ c = car x y k ∧ W.ownsRow w.heap.size 3 1 o k (intsV (digs 256 k (x + y))) ∧ w.grownBy W none) (fun _ _ i _ => m - (intOf i).toNat)
  case atStart => exact ⟨0, 0, Nat.zero_le _, rfl, rfl, (car_zero _ _).symm, World.ownsRow_nil _ _ _ _, grown_refl _ _⟩
  case round =>
    obtain ⟨k, c, hk, rfl, rfl, hc, ho, hg⟩ := hrel
    have HO := Lib.hid ho
    have HG := Lib.hid hg
    clear ho hg
    by_cases hlt : k < m
    · have hst := car_step x y k
      have hc1 := car_le x y k
      rw [← hc] at hst hc1
      have C1 := Lib.hid (at_any v1 a k wr (H1.out.grown0 HG.out))
      have C2 := Lib.hid (at_any v2 b k wr (H2.out.grown0 HG.out))
      rw [HA.out k] at C1
      rw [HB.out k] at C2
      have hy : x / 256 ^ k % 256 < 256 := Nat.mod_lt _ (by decide)
      have hz : y / 256 ^ k % 256 < 256 := Nat.mod_lt _ (by decide)
      have HD := Lib.hid (digs_more 256 k (x + y))
      rw [← hst.1] at HD
      have HNX := Lib.hid hst.2
      generalize x / 256 ^ k % 256 = p at *
      generalize y / 256 ^ k % 256 = q at *
      have hdec : decide ((k : Int) < (m : Int)) = true := by simp; omega
      clear hst hc
      go_wp2_with (first
        | (go_at_call 52; refine C1.out.mono ?_; rintro e w1 ⟨rfl, hw⟩; obtain rfl := hw.symm; clear C1 hw)
        | (go_at_call 52; refine C2.out.mono ?_; rintro e w2 ⟨rfl, hw⟩; obtain rfl := hw.symm; clear C2 hw)
        | (at_builtin; refine wpList_append_ints _ rfl _ _ rfl w.heap.size _ k _ rfl (HO.out.alloc _) _ [(c + p + q) % 256] rfl ?_ ?_ ?_ ?_))
      · have := Rd.int1 wr ((c + p + q) % 256)
        rw [show (((c + p + q) % 256 : Nat) : Int) = ((p : Int) + (q : Int) + (c : Int)) % 256 by omega] at this
        exact this
      · simp; omega
      · have := HG.out.size; simp; omega
      · intro v' w' ho hg hat
        have HO' := Lib.hid ho
        have HG' := Lib.hid hg
        clear ho hg hat
        go_wp2
        go_roundw
        case rel =>
          refine ⟨k + 1, (c + p + q) / 256, by omega, by go_num, congrArg (Value.int .i64) (by omega), HNX.out, ?_, grown_new (grown_alloc HG.out _) HG'.out (fun b hb => (HO.out.lt b hb).1)⟩
          rw [HD.out, intsV_app]
          exact HO'.out
        case measure => simp [intOf]; omega
    · have hkm : k = m := by omega
      subst hkm
      have hdec : decide ((k : Int) < (k : Int)) = false := by simp
      clear hc hk hlt
      go_wp2
      go_ret
      exact ⟨_, rfl, Rd.of_own HO.out, HG.out⟩

set_option maxHeartbeats 4000000 in
theorem less_any (v1 v2 : Value) (b : List Nat) (x y n : Nat) (hn : n ≤ 100) (w : World) (h1 : Rd w v1 (intsV (digs 256 n x))) (h2 : Rd w v2 (intsV b)) (hb : Dg b y) (hxy : y ≤ x) :
    Calls Try.prog 51 #[v1, v2] w (OutI w (digs 256 n (x - y))) := by
  have H1 := Lib.hid h1
  have H2 := Lib.hid h2
  have HB := Lib.hid hb
  have HXY := Lib.hid hxy
  obtain ⟨A1, c1, rfl⟩ := h1.form
  have hc1 := h1.len.2
  rw [intsV_len, digs_len] at *
  unfold maxLen at hc1
  clear h1 h2 hb hxy
  go_enter Try.func51, Try.ntmps51
  go_wp2
  go_loopw [5, 6, 7] (fun o q i W => ∃ k c : Nat, k ≤ n ∧ i = .int .i64 k ∧ q = .int .i64 (c : Int) ∧ c = bor x y k ∧ W.ownsRow w.heap.size 3 1 o k (intsV (digs 256 k (x - y))) ∧ w.grownBy W none) (fun _ _ i _ => n - (intOf i).toNat)
  case atStart => exact ⟨0, 0, Nat.zero_le _, rfl, rfl, (bor_zero _ _).symm, World.ownsRow_nil _ _ _ _, grown_refl _ _⟩
  case round =>
    obtain ⟨k, c, hk, rfl, rfl, hc, ho, hg⟩ := hrel
    have HO := Lib.hid ho
    have HG := Lib.hid hg
    clear ho hg
    by_cases hlt : k < n
    · have hst := bor_step x y k HXY.out
      have hc1 := bor_le x y k
      rw [← hc] at hst hc1
      obtain ⟨ad1, rfl, cc1⟩ := (H1.out.grown0 HG.out).num k (by rw [digs_len]; exact hlt)
      rw [digs_at 256 n x k hlt] at cc1
      have C2 := Lib.hid (fun (W : World) (h : wr.grownBy W none) => at_any v2 b k W ((H2.out.grown0 HG.out).grown0 h))
      rw [HB.out k] at C2
      have hp8 : x / 256 ^ k % 256 < 256 := Nat.mod_lt _ (by decide)
      have hq8 : y / 256 ^ k % 256 < 256 := Nat.mod_lt _ (by decide)
      have HD := Lib.hid (digs_more 256 k (x - y))
      generalize (x - y) / 256 ^ k % 256 = u at *
      generalize x / 256 ^ k % 256 = p at *
      generalize y / 256 ^ k % 256 = q at *
      have hdec : decide ((k : Int) < (n : Int)) = true := by simp; omega
      clear hc
      by_cases hneg : p < q + c
      · obtain ⟨hu, hc'⟩ := hst.1 hneg
        have HU := Lib.hid (And.intro hu hc')
        have hng : (p : Int) - (q : Int) - (c : Int) < 0 := by omega
        clear hst hu hc'
        go_wp2
        go_quiet (first | (go_at_call 52; refine Calls.quiet_of_same (C2.out _ ?_); exact grown_drewN (grown_refl _ _) _))
        have HO2 := Lib.hid (show (wr.drewN nq).ownsRow w.heap.size 3 1 u5 k (intsV (digs 256 k (x - y))) from HO.out)
        have HG2 := Lib.hid (show w.grownBy (wr.drewN nq) none from grown_drewN HG.out _)
        generalize wr.drewN nq = W2 at *
        go_wp2_with (at_builtin; refine wpList_append_ints _ rfl _ _ rfl w.heap.size _ k _ rfl (HO2.out.alloc _) _ [u] rfl ?_ ?_ ?_ ?_)
        · have := Rd.int1 W2 u
          rw [show ((u : Nat) : Int) = (p : Int) - (q : Int) - (c : Int) + 256 by have := HU.out.1; omega] at this
          exact this
        · simp; omega
        · have := HG2.out.size; simp; omega
        · intro v' w' ho hg hat
          have HO' := Lib.hid ho
          have HG' := Lib.hid hg
          clear ho hg hat
          go_wp2
          go_roundw
          case rel =>
            refine ⟨k + 1, 1, by omega, by go_num, rfl, HU.out.2.symm, ?_, grown_new (grown_alloc HG2.out _) HG'.out (fun b hb => (HO2.out.lt b hb).1)⟩
            rw [HD.out, intsV_app]
            exact HO'.out
          case measure => simp [intOf]; omega
      · obtain ⟨hu, hc'⟩ := hst.2 hneg
        have HU := Lib.hid (And.intro hu hc')
        have hng : ¬ (p : Int) - (q : Int) - (c : Int) < 0 := by omega
        clear hst hu hc'
        go_wp2
        go_quiet (first | (go_at_call 52; refine Calls.quiet_of_same (C2.out _ ?_); exact grown_drewN (grown_refl _ _) _))
        have HO2 := Lib.hid (show (wr.drewN nq).ownsRow w.heap.size 3 1 u5 k (intsV (digs 256 k (x - y))) from HO.out)
        have HG2 := Lib.hid (show w.grownBy (wr.drewN nq) none from grown_drewN HG.out _)
        generalize wr.drewN nq = W2 at *
        go_wp2_with (at_builtin; refine wpList_append_ints _ rfl _ _ rfl w.heap.size _ k _ rfl (HO2.out.alloc _) _ [u] rfl ?_ ?_ ?_ ?_)
        · have := Rd.int1 W2 u
          rw [show ((u : Nat) : Int) = (p : Int) - (q : Int) - (c : Int) by have := HU.out.1; omega] at this
          exact this
        · simp; omega
        · have := HG2.out.size; simp; omega
        · intro v' w' ho hg hat
          have HO' := Lib.hid ho
          have HG' := Lib.hid hg
          clear ho hg hat
          go_wp2
          go_roundw
          case rel =>
            refine ⟨k + 1, 0, by omega, by go_num, rfl, HU.out.2.symm, ?_, grown_new (grown_alloc HG2.out _) HG'.out (fun b hb => (HO2.out.lt b hb).1)⟩
            rw [HD.out, intsV_app]
            exact HO'.out
          case measure => simp [intOf]; omega
    · have hkm : k = n := by omega
      subst hkm
      have hdec : decide ((k : Int) < (k : Int)) = false := by simp
      clear hc hk hlt
      go_wp2
      go_ret
      exact ⟨_, rfl, Rd.of_own HO.out, HG.out⟩

set_option maxHeartbeats 4000000 in
theorem under_any (v1 v2 : Value) (x y : Nat) (hx : x < 256 ^ 18) (hy : y < 256 ^ 17) (w : World) (h1 : Rd w v1 (intsV (digs 256 18 x))) (h2 : Rd w v2 (intsV (digs 256 17 y))) :
    Calls Try.prog 49 #[v1, v2] w fun e w' => e = .returned (.bool (decide (x < y))) ∧ w' = w := by
  have HD1 := Lib.hid (dg_digs 18 x hx)
  have HD2 := Lib.hid (dg_digs 17 y hy)
  have H1 := Lib.hid h1
  have H2 := Lib.hid h2
  obtain ⟨A1, c1, rfl⟩ := h1.form
  obtain ⟨A2, c2, rfl⟩ := h2.form
  rw [intsV_len, digs_len] at *
  have HX := Lib.hid (show x / 256 ^ 18 = y / 256 ^ 18 by rw [Nat.div_eq_of_lt hx, Nat.div_eq_of_lt (by omega)])
  clear h1 h2 hx hy
  go_enter Try.func49, Try.ntmps49
  go_wp2
  go_loop [5] (fun i => ∃ k : Nat, k ≤ 18 ∧ i = .int .i64 ((k : Int) - 1) ∧ x / 256 ^ k = y / 256 ^ k) (fun i => (intOf i + 1).toNat)
  case atStart => exact ⟨18, Nat.le_refl _, (by first | go_num | (simp [wrap64]) | (unfold wrap64; omega)), HX.out⟩
  case round =>
    obtain ⟨k, hk, rfl, hxy⟩ := hrel
    cases k with
    | zero =>
      have hq : decide ((0 : Int) ≤ ((0 : Nat) : Int) - 1) = false := by decide
      have HF := Lib.hid (show decide (x < y) = false by simp at hxy; simp [hxy])
      clear hxy
      go_wp2
      go_ret
      exact ⟨by rw [HF.out]; first | rfl | simp, rfl⟩
    | succ k =>
      have hq : (((k + 1 : Nat) : Int) - 1) = (k : Int) := by omega
      rw [hq] at *
      obtain ⟨s1, s2⟩ := same_down x y k hxy
      have C1 := Lib.hid (at_any _ (digs 256 18 x) k w H1.out)
      have C2 := Lib.hid (at_any _ (digs 256 17 y) k w H2.out)
      rw [HD1.out k] at C1
      rw [HD2.out k] at C2
      generalize x / 256 ^ k % 256 = p at *
      generalize y / 256 ^ k % 256 = q at *
      have S1 := Lib.hid s1
      have S2 := Lib.hid s2
      clear s1 s2 hxy hq
      by_cases hpq : p = q
      · subst hpq
        go_wp2_with (first
          | (go_at_call 52; refine C1.out.mono ?_; rintro e w1 ⟨rfl, hw⟩; obtain rfl := hw.symm; clear C1 hw)
          | (go_at_call 52; refine C2.out.mono ?_; rintro e w2 ⟨rfl, hw⟩; obtain rfl := hw.symm; clear C2 hw))
        go_round
        case rel => exact ⟨k, by omega, by go_num, S1.out (by first | rfl | trivial)⟩
        case measure => (simp [intOf]; try omega)
      · have hne : ((p : Int) != (q : Int)) = true := by simp; omega
        have C1' := Lib.hid C1.out
        have C2' := Lib.hid C2.out
        go_wp2_with (first
          | (go_at_call 52; refine C1.out.mono ?_; rintro e w1 ⟨rfl, hw⟩; obtain rfl := hw.symm; clear C1 hw)
          | (go_at_call 52; refine C2.out.mono ?_; rintro e w2 ⟨rfl, hw⟩; obtain rfl := hw.symm; clear C2 hw)
          | (go_at_call 52; refine C1'.out.mono ?_; rintro e w3 ⟨rfl, hw⟩; obtain rfl := hw.symm; clear C1' hw)
          | (go_at_call 52; refine C2'.out.mono ?_; rintro e w4 ⟨rfl, hw⟩; obtain rfl := hw.symm; clear C2' hw))
        go_ret
        exact ⟨by rw [S2.out hpq]; simp, rfl⟩

set_option maxHeartbeats 4000000 in
theorem prime_any (w : World) : Calls Try.prog 50 #[] w (OutI w (digs 256 17 PP)) := by
  rw [prime_digs]
  go_enter Try.func50, Try.ntmps50
  go_wp2
  go_loopw [1, 2] (fun o i W => ∃ k : Nat, k ≤ 15 ∧ i = .int .i64 ((k + 1 : Nat) : Int) ∧ W.ownsRow w.heap.size 3 1 o (k + 1) (intsV (251 :: List.replicate k 255)) ∧ w.grownBy W none) (fun _ i _ => 17 - (intOf i).toNat)
  case atStart => exact ⟨0, Nat.zero_le _, rfl, own_int1 w _ 251 (Nat.le_refl _), grown_alloc (grown_refl _ _) _⟩
  case round =>
    obtain ⟨k, hk, rfl, ho, hg⟩ := hrel
    have HO := Lib.hid ho
    have HG := Lib.hid hg
    clear ho hg
    by_cases hlt : k < 15
    · have hdec : decide (((k + 1 : Nat) : Int) < 16) = true := by simp; omega
      generalize hi : k + 1 = i at *
      go_wp2_with (at_builtin; refine wpList_append_ints _ rfl _ _ rfl w.heap.size _ i _ rfl (HO.out.alloc _) _ [255] rfl (Rd.int1 wr 255) ?_ ?_ ?_)
      · simp; omega
      · have := HG.out.size; simp; omega
      · intro v' w' ho hg hat
        have HO' := Lib.hid ho
        have HG' := Lib.hid hg
        clear ho hg hat
        go_wp2
        go_roundw
        case rel =>
          refine ⟨k + 1, by omega, congrArg (Value.int .i64) (by omega), ?_, grown_new (grown_alloc HG.out _) HG'.out (fun b hb => (HO.out.lt b hb).1)⟩
          rw [List.replicate_succ', show (251 :: (List.replicate k 255 ++ [255])) = (251 :: List.replicate k 255) ++ [255] from rfl, intsV_app, show k + 1 + 1 = i + 1 by omega]
          exact HO'.out
        case measure => simp [intOf]; omega
    · obtain rfl : k = 15 := by omega
      clear hk hlt
      go_wp2_with (at_builtin; refine wpList_append_ints _ rfl _ _ rfl w.heap.size _ 16 _ rfl (HO.out.alloc _) _ [3] rfl (Rd.int1 wr 3) ?_ ?_ ?_)
      · simp
      · have := HG.out.size; simp; omega
      · intro v' w' ho hg hat
        have HR' := Lib.hid (Rd.of_own ho)
        have HG' := Lib.hid (grown_new (grown_alloc HG.out _) hg (fun b hb => (HO.out.lt b hb).1))
        clear ho hg hat
        go_wp2
        go_ret
        exact ⟨_, rfl, HR'.out, HG'.out⟩

/-- The number that a row of digits reads as, in a world. -/
def rdNum (u : Value) (W : World) : Nat := match u with
  | .slice (some ad) n _ => val 256 ((List.range n).map fun j => match W.cell? (ad.add j) with
    | some (.int _ z) => z.toNat
    | _ => 0)
  | _ => 0
theorem rdNum_eq {u : Value} {W : World} {x : Nat} (hx : x < 256 ^ 18) (h : Rd W u (intsV (digs 256 18 x))) : rdNum u W = x := by
  obtain ⟨A, c, rfl⟩ := h.form
  have hl := h.len.1
  obtain ⟨ad, rfl, hc⟩ := h.cells (by intro e; have := congrArg List.length e; rw [intsV_len, digs_len] at this; simp at this)
  have e : ((List.range (intsV (digs 256 18 x)).length).map fun j => match W.cell? (ad.add j) with
    | some (.int _ z) => z.toNat
    | _ => 0) = digs 256 18 x := by
    apply List.ext_getElem?
    intro j
    rw [intsV_len, digs_len]
    by_cases hj : j < 18
    · rw [List.getElem?_map, List.getElem?_range hj, digs_at? 256 18 x j hj, Option.map_some]
      have := hc j _ (intsV_at _ j (by rw [digs_len]; exact hj))
      rw [this, digs_at 256 18 x j hj]
      exact congrArg some (Int.toNat_natCast _)
    · rw [List.getElem?_eq_none (by simp; omega), List.getElem?_eq_none (by rw [digs_len]; omega)]
  unfold rdNum
  simp only
  rw [e, val_digs, Nat.mod_eq_of_lt hx]

set_option maxHeartbeats 4000000 in
theorem mod_any (v : Value) (x : Nat) (hx : x < 256 ^ 18) (w : World) (h : Rd w v (intsV (digs 256 18 x))) :
    Calls Try.prog 31 #[v] w (OutI w (digs 256 18 (x % PP))) := by
  have H := Lib.hid h
  have HX := Lib.hid hx
  clear h hx
  go_enter Try.func31, Try.ntmps31
  go_wp2
  go_loopw [0] (fun u W => ∃ y : Nat, y < 256 ^ 18 ∧ y % PP = x % PP ∧ Rd W u (intsV (digs 256 18 y)) ∧ w.grownBy W none) (fun u W => rdNum u W)
  case atStart => exact ⟨x, HX.out, rfl, H.out, grown_refl _ _⟩
  case round =>
    obtain ⟨y, hy, hyx, hu, hg⟩ := hrel
    have HU := Lib.hid hu
    have HG := Lib.hid hg
    have HYX := Lib.hid hyx
    have HY := Lib.hid hy
    have HNUM := Lib.hid (rdNum_eq hy hu)
    clear hu hg hyx hy
    go_wp2_with fail
    refine (prime_any _).mono ?_
    rintro e w1 ⟨p, rfl, hp, hg1⟩
    have HU1 := Lib.hid (HU.out.grown0 hg1)
    have HP := Lib.hid hp
    have HG1 := Lib.hid (HG.out.trans hg1)
    clear hp hg1 HU HG
    have CU := Lib.hid (under_any _ _ y PP HY.out (by decide) w1 HU1.out HP.out)
    by_cases hlt : y < PP
    · have hd : decide (y < PP) = true := by simpa using hlt
      rw [hd] at CU
      have HR := Lib.hid (show y = x % PP by rw [← HYX.out, Nat.mod_eq_of_lt hlt])
      clear hd hlt
      go_wp2_with fail
      refine CU.out.mono ?_
      rintro e w2 ⟨rfl, hw⟩
      obtain rfl := hw.symm
      clear hw CU
      go_wp2
      go_ret
      exact ⟨_, rfl, by rw [← HR.out]; exact HU1.out, HG1.out⟩
    · have hd : decide (y < PP) = false := by simpa using hlt
      rw [hd] at CU
      have HGE := Lib.hid hlt
      clear hd hlt
      go_wp2_with fail
      refine CU.out.mono ?_
      rintro e w2 ⟨rfl, hw⟩
      obtain rfl := hw.symm
      clear hw CU
      go_wp2_with fail
      refine (prime_any _).mono ?_
      rintro e w3 ⟨p3, rfl, hp3, hg3⟩
      have HU3 := Lib.hid (HU1.out.grown0 hg3)
      have HP3 := Lib.hid hp3
      have HG3 := Lib.hid (HG1.out.trans hg3)
      clear hp3 hg3 HU1 HG1 HP
      go_wp2_with fail
      refine (less_any _ _ (digs 256 17 PP) y PP 18 (by decide) w3 HU3.out HP3.out (dg_digs 17 PP (by decide)) (by have := HGE.out; omega)).mono ?_
      rintro e w4 ⟨u4, rfl, hr4, hg4⟩
      have HR4 := Lib.hid hr4
      have HG4 := Lib.hid (HG3.out.trans hg4)
      clear hr4 hg4 HU3 HP3 HG3
      go_wp2
      go_roundw
      case rel =>
        have h1 := HGE.out
        have h2 := HY.out
        exact ⟨y - PP, by omega, by rw [← HYX.out, ← Nat.mod_eq_sub_mod (by omega)], HR4.out, HG4.out⟩
      case measure =>
        have h1 := HGE.out
        have h2 := HY.out
        rw [HNUM.out, rdNum_eq (x := y - PP) (by omega) HR4.out]
        have : 0 < PP := by decide
        omega
end Go.Proofs.Ytjcbdplbekecjaa

/-
  The document's own Times over this program.
-/
namespace Go.Proofs.Ytjcbdplbekecjaa
open Go.RowKit

/-- make of numbers. -/
theorem wpList_make_ints (w : World) {ops : Array Oper} {rest : List Oper} {o : Oper} {a : Act} {Q : Exit → Act → World → Prop} (hgd : o.guard = none) (x y : Operand) (ho : o.op = .makeSlice 56 x y)
    (n : Nat) (hx : a.eval x = .int .i64 (n : Int)) (hy : a.eval y = .int .i64 (n : Int)) (hc : n ≤ 1000000)
    (h : ∀ w', Row w' w.heap.size 3 (intsV (List.replicate n 0)) → w.grownBy w' none → wpList Try.prog ops Q rest (a.put o.dst (.slice (some ⟨w.heap.size, 0, none⟩) n n)) w') : wpList Try.prog ops Q (o :: rest) a w :=
  wpList_plain hgd fun _ hK => by
    obtain ⟨i, hi, hz, hs1, hb⟩ := infoInt
    have hr := run_make (P := Try.prog) w 56 3 i (.int .i64 0) Try.underlying56 hi hz .i64 .i64 n n (by omega) (by omega) (by rw [hb]; omega) (by omega)
    simp only [Int.toNat_natCast, hs1, Nat.mul_one] at hr
    have e : madeCells (Value.int .i64 0).cells n = (intsV (List.replicate n 0)).toArray := by
      have h1 := toList_madeCells_one (.int .i64 0) n
      rw [show (Value.int IntKind.i64 0).cells = #[.int .i64 0] from rfl]
      apply Array.ext'
      rw [h1]
      simp [intsV, intV]
    rw [e] at hr
    unfold Oper.wp execOp
    simp only [ho, hx, hy, Sem.run_bind, hr, Result.andThen_ok, Sem.run_pure]
    rw [Oper.upon_value]
    exact hK _ _ (h _ (Row.new w 3 _) (grown_alloc (grown_refl _ _) _))
theorem slice_17 (A : Option Addr) (c : Nat) (hc : 18 ≤ c) (w : World) : (Instr.sliceAt 56 (.slice A 18 c) none (some (.int .i64 17)) none).run Try.prog w = .ok (.slice A 17 c) w := by
  simp [Instr.sliceAt, go_sem, Instr.sliceBounds, Instr.slice, run_underlying Try.underlying56]
  omega

set_option maxHeartbeats 8000000 in
theorem rtimes_any (va vr : Value) (a : Nat) (ha : a < 256 ^ 17) (r : List UInt8) (h16 : r.length = 16) (w : World) (h1 : Rd w va (intsV (digs 256 18 a))) (h2 : Rd w vr (bytesV r)) :
    Calls Try.prog 30 #[va, vr] w (OutI w (digs 256 18 (a * le r % PP))) := by
  have H1 := Lib.hid h1
  have H2 := Lib.hid h2
  have HA := Lib.hid ha
  have H16 := Lib.hid h16
  obtain ⟨A2, c2, rfl⟩ := h2.form
  rw [bytesV_len, h16] at h2 H2 ⊢
  clear h1 h2 ha h16
  go_enter Try.func30, Try.ntmps30
  go_wp2_with (refine wpList_make_ints _ rfl _ _ rfl 18 rfl rfl (by decide) ?_; intro w1 hr1 hg1)
  have HR1 := Lib.hid (hr1.rds 18 18 (by rw [intsV_len]; rfl) (by decide) (by decide))
  have HG1 := Lib.hid hg1
  clear hr1 hg1
  go_loopw [5, 6] (fun o i W => ∃ k : Nat, k ≤ 16 ∧ i = .int .i64 ((k : Int) - 1) ∧ Rd W o (intsV (digs 256 18 (a * le (r.drop k) % PP))) ∧ w.grownBy W none) (fun _ i _ => (intOf i + 1).toNat)
  case atStart =>
    refine ⟨16, Nat.le_refl _, by first | go_num | rfl, ?_, HG1.out⟩
    rw [List.drop_of_length_le (by rw [H16.out]; exact Nat.le_refl _), show le [] = 0 from rfl, Nat.mul_zero, Nat.zero_mod, digs_zero]
    exact HR1.out
  case round =>
    clear HR1 HG1
    obtain ⟨k, hk, rfl, ho, hg⟩ := hrel
    have HO := Lib.hid ho
    have HG := Lib.hid hg
    obtain ⟨A, c, rfl⟩ := ho.form
    have hoc := ho.len.2
    rw [intsV_len, digs_len] at *
    clear ho hg
    cases k with
    | zero =>
      have hq : decide ((0 : Int) ≤ ((0 : Nat) : Int) - 1) = false := by decide
      rw [List.drop_zero] at HO
      go_wp2
      go_ret
      exact ⟨_, rfl, HO.out, HG.out⟩
    | succ k =>
      have hq : (((k + 1 : Nat) : Int) - 1) = (k : Int) := by omega
      rw [hq] at *
      have hls := le_step r k (by rw [H16.out]; omega)
      have hms := mod_shift a (le (r.drop (k + 1))) (r.getD k 0).toNat
      rw [← hls] at hms
      have HMS := Lib.hid hms
      have hlt : a * le (r.drop (k + 1)) % PP < PP := Nat.mod_lt _ (by decide)
      generalize a * le (r.drop (k + 1)) % PP = o at *
      have hsl := slice_17 A c hoc.1
      have HOT := Lib.hid (show Rd wr (.slice A 17 c) (intsV (digs 256 17 o)) by
        have := HO.out.take (n := 17) (d := c) (by decide) (by have := hoc.1; omega) (Nat.le_refl _)
        rw [show (intsV (digs 256 18 o)).take 17 = intsV (digs 256 17 o) by unfold intsV; rw [← List.map_take, take_digs 18 17 o (by decide)]] at this
        exact this)
      have HPO := Lib.hid hlt
      have hpp : PP < 256 ^ 17 := by decide
      have HPP := Lib.hid hpp
      have hcell : ∃ ad, A2 = some ad ∧ ∀ W : World, w.grownBy W none → W.cell? (ad.add k) = some (.int .u8 ((r.getD k 0).toNat : Int)) := by
        obtain ⟨ad, rfl, hcl⟩ := H2.out.cells (by intro e; have := congrArg List.length e; rw [bytesV_len, H16.out] at this; simp at this)
        refine ⟨ad, rfl, fun W hW => ?_⟩
        have hc0 := hcl k _ (bytesV_at r k (by rw [H16.out]; omega))
        exact (World.cell?_of_block (hW.block _ (World.block_lt_of_cell? w _ hc0) (by simp))).trans hc0
      obtain ⟨ad, rfl, hcl⟩ := hcell
      have HCL := Lib.hid hcl
      have hq8 := UInt8.toNat_lt (r.getD k 0)
      generalize (r.getD k 0).toNat = q at *
      clear hls hms hq hlt hpp hcl
      go_wp2_with (at_builtin; refine wpList_append_ints _ rfl _ _ rfl w.heap.size _ 1 _ rfl (own_int1 wr w.heap.size 0 HG.out.size) _ (digs 256 17 o) rfl (HOT.out.grown0 (grown_alloc (grown_refl _ none) _)) ?_ ?_ ?_)
      · rw [digs_len]; decide
      · have := HG.out.size; simp; omega
      intro v2 w2 ho2 hg2 hat
      have HR2 := Lib.hid (show Rd w2 v2 (intsV (digs 256 18 (256 * o))) by
        have := Rd.of_own ho2
        rw [← intsV_app, show [0] ++ digs 256 17 o = digs 256 18 (256 * o) from digs_up 17 o] at this
        exact this)
      have HG2 := Lib.hid (grown_new (grown_alloc HG.out _) hg2 (fun b hb => by cases hb; exact HG.out.size))
      clear ho2 hg2 hat HO HG HOT hsl
      go_wp2_with fail
      refine (mod_any v2 (256 * o) (by have := HPO.out; have := HPP.out; omega) w2 HR2.out).mono ?_
      rintro e w3 ⟨v3, rfl, hr3, hg3⟩
      have HR3 := Lib.hid hr3
      have HG3 := Lib.hid (HG2.out.trans hg3)
      clear hr3 hg3 HR2 HG2
      go_wp2
      go_loopw [5, 8] (fun u i W => ∃ j : Nat, j ≤ q ∧ i = .int .i64 j ∧ Rd W u (intsV (digs 256 18 ((256 * o % PP + j * a) % PP))) ∧ w.grownBy W none) (fun _ i _ => q - (intOf i).toNat)
      case atStart => exact ⟨0, Nat.zero_le _, rfl, by rw [Nat.zero_mul, Nat.add_zero, Nat.mod_mod]; exact HR3.out, HG3.out⟩
      case round =>
        clear HR3 HG3
        obtain ⟨j, hj, rfl, hu, hg⟩ := hrel
        have HU := Lib.hid hu
        have HG := Lib.hid hg
        have hcc := HCL.out wr hg
        clear hu hg
        by_cases hjq : j < q
        · have hd : decide ((j : Int) < (q : Int)) = true := by simp; omega
          have hml : (256 * o % PP + j * a) % PP < PP := Nat.mod_lt _ (by decide)
          have HNX := Lib.hid (show ((256 * o % PP + j * a) % PP + a) % PP = (256 * o % PP + (j + 1) * a) % PP by rw [Nat.mod_add_mod, Nat.add_mul j 1 a, Nat.one_mul, Nat.add_assoc])
          generalize (256 * o % PP + j * a) % PP = t at *
          have HML := Lib.hid hml
          clear hml
          go_wp2_with fail
          refine (add_any _ va (digs 256 18 t) (digs 256 18 a) t a 18 (by decide) wr HU.out (H1.out.grown0 HG.out) (dg_digs 18 t (by have := HML.out; have := HPP.out; omega)) (dg_digs 18 a (by have := HA.out; omega))).mono ?_
          rintro e w4 ⟨v4, rfl, hr4, hg4⟩
          have HR4 := Lib.hid hr4
          have HG4 := Lib.hid (HG.out.trans hg4)
          clear hr4 hg4 HU HG hcc
          go_wp2_with fail
          refine (mod_any v4 (t + a) (by have := HML.out; have := HPP.out; have := HA.out; omega) w4 HR4.out).mono ?_
          rintro e w5 ⟨v5, rfl, hr5, hg5⟩
          rw [HNX.out] at hr5
          have HR5 := Lib.hid hr5
          have HG5 := Lib.hid (HG4.out.trans hg5)
          clear hr5 hg5
          go_wp2
          go_roundw
          case rel => exact ⟨j + 1, by omega, by go_num, HR5.out, HG5.out⟩
          case measure => simp [intOf]; omega
        · obtain rfl : j = q := by omega
          have hd : decide ((j : Int) < (j : Int)) = false := by simp
          rw [HMS.out] at HU
          clear hj hjq
          go_wp2
          go_roundw
          case rel => exact ⟨k, by omega, by go_num, HU.out, HG.out⟩
          case measure => (simp [intOf]; try omega)
end Go.Proofs.Ytjcbdplbekecjaa

/-
  The document's own Clamp over this program.
-/
namespace Go.Proofs.Ytjcbdplbekecjaa
open Go.RowKit

theorem Rd.byte1 (w : World) (x : UInt8) : Rd (w.alloc (.cells #[.int .u8 (x.toNat : Int)] 5)) (.slice (some ⟨w.heap.size, 0, none⟩) 1 1) (bytesV [x]) := Rd.one w _ 5
theorem clampB_more (r : List UInt8) (k : Nat) (h : k < 16) : (clampB r).take (k + 1) = (clampB r).take k ++ [clr k (r.getD k 0)] := by
  rw [List.take_add_one, List.getElem?_eq_getElem (by rw [clampB_len]; exact h)]
  have := clampB_at r k h
  rw [List.getD_eq_getElem?_getD, List.getElem?_eq_getElem (by rw [clampB_len]; exact h)] at this
  rw [← this]
  rfl

set_option maxHeartbeats 8000000 in
theorem rclamp_any (v : Value) (r : List UInt8) (h16 : r.length = 16) (w : World) (h : Rd w v (bytesV r)) :
    Calls Try.prog 29 #[v] w (Out w (clampB r)) := by
  have H := Lib.hid h
  have H16 := Lib.hid h16
  obtain ⟨A, c, rfl⟩ := h.form
  rw [bytesV_len, h16] at h H ⊢
  clear h h16
  go_enter Try.func29, Try.ntmps29
  go_wp2
  go_loopw [3, 4] (fun o i W => ∃ k : Nat, k ≤ 16 ∧ i = .int .i64 k ∧ W.ownsRow w.heap.size 5 1 o k (bytesV ((clampB r).take k)) ∧ w.grownBy W none) (fun _ i _ => 16 - (intOf i).toNat)
  case atStart => exact ⟨0, Nat.zero_le _, rfl, World.ownsRow_nil _ _ _ _, grown_refl _ _⟩
  case round =>
    obtain ⟨k, hk, rfl, ho, hg⟩ := hrel
    have HO := Lib.hid ho
    have HG := Lib.hid hg
    clear ho hg
    by_cases hlt : k < 16
    · obtain ⟨ad, rfl, hcl⟩ := (H.out.grown0 HG.out).cells (by intro e; have := congrArg List.length e; rw [bytesV_len, H16.out] at this; simp at this)
      have hc0 := hcl k _ (bytesV_at r k (by rw [H16.out]; exact hlt))
      have HM := Lib.hid (clampB_more r k hlt)
      generalize r.getD k 0 = x at *
      have hx := UInt8.toNat_lt x
      have hdec : decide ((k : Int) < 16) = true := by simp; omega
      clear hcl
      have fin : ∀ (e : Int), e = ((clr k x).toNat : Int) → Rd (wr.alloc (.cells #[.int .u8 e] 5)) (.slice (some ⟨wr.heap.size, 0, none⟩) 1 1) (bytesV [clr k x]) := fun e he => by rw [he]; exact Rd.byte1 wr _
      have FIN := Lib.hid fin
      clear fin
      by_cases h3 : k % 4 = 3
      · have hm3 : (((k : Int) % 4) == 3) = true := by rw [beq_iff_eq]; omega
        have hm0 : (((k : Int) % 4) == 0) = false := by rw [beq_eq_false_iff_ne]; omega
        have HC := Lib.hid (show (x.toNat : Int) % 16 = ((clr k x).toNat : Int) by unfold clr; rw [if_pos h3, UInt8.toNat_ofNat']; omega)
        go_wp2_with (at_builtin; refine wpList_append_bytes _ rfl _ _ rfl w.heap.size _ k _ rfl (HO.out.alloc _) _ [clr k x] rfl (FIN.out _ HC.out) ?_ ?_ ?_)
        · simp; omega
        · have := HG.out.size; simp; omega
        intro v' w' ho hg hat
        have HO' := Lib.hid ho
        have HG' := Lib.hid hg
        clear ho hg hat
        go_wp2
        go_roundw
        case rel =>
          refine ⟨k + 1, by omega, by go_num, ?_, grown_new (grown_alloc HG.out _) HG'.out (fun b hb => (HO.out.lt b hb).1)⟩
          rw [HM.out, bytesV_app]
          exact HO'.out
        case measure => simp [intOf]; omega
      · by_cases h0 : k % 4 = 0 ∧ 0 < k
        · have hm3 : (((k : Int) % 4) == 3) = false := by rw [beq_eq_false_iff_ne]; omega
          have hm0 : (((k : Int) % 4) == 0) = true := by rw [beq_iff_eq]; omega
          have hk0 : 0 < k := h0.2
          have HC := Lib.hid (show (x.toNat : Int) / 4 * 4 = ((clr k x).toNat : Int) by unfold clr; rw [if_neg h3, if_pos h0, UInt8.toNat_ofNat']; omega)
          go_wp2_with (at_builtin; refine wpList_append_bytes _ rfl _ _ rfl w.heap.size _ k _ rfl (HO.out.alloc _) _ [clr k x] rfl (FIN.out _ HC.out) ?_ ?_ ?_)
          · simp; omega
          · have := HG.out.size; simp; omega
          intro v' w' ho hg hat
          have HO' := Lib.hid ho
          have HG' := Lib.hid hg
          clear ho hg hat
          go_wp2
          go_roundw
          case rel =>
            refine ⟨k + 1, by omega, by go_num, ?_, grown_new (grown_alloc HG.out _) HG'.out (fun b hb => (HO.out.lt b hb).1)⟩
            rw [HM.out, bytesV_app]
            exact HO'.out
          case measure => simp [intOf]; omega
        · have hm3 : (((k : Int) % 4) == 3) = false := by rw [beq_eq_false_iff_ne]; omega
          have HC := Lib.hid (show (x.toNat : Int) = ((clr k x).toNat : Int) by unfold clr; rw [if_neg h3, if_neg h0])
          have split0 : (k = 0) ∨ (¬ k % 4 = 0) := by omega
          rcases split0 with hk0 | hk0
          · subst hk0
            have hc00 : wr.cell? ad = some (.int .u8 (x.toNat : Int)) := by
              rw [show ad.add 0 = ad by simp [Addr.add]] at hc0
              exact hc0
            go_wp2_with (at_builtin; refine wpList_append_bytes _ rfl _ _ rfl w.heap.size _ 0 _ rfl (HO.out.alloc _) _ [clr 0 x] rfl (FIN.out _ HC.out) ?_ ?_ ?_)
            · have := HG.out.size; omega
            intro v' w' ho hg hat
            have HO' := Lib.hid ho
            have HG' := Lib.hid hg
            clear ho hg hat
            go_wp2
            go_roundw
            case rel =>
              refine ⟨0 + 1, by omega, by go_num, ?_, grown_new (grown_alloc HG.out _) HG'.out (fun b hb => (HO.out.lt b hb).1)⟩
              rw [HM.out, bytesV_app]
              exact HO'.out
            case measure => simp [intOf]
          · have hm0 : (((k : Int) % 4) == 0) = false := by rw [beq_eq_false_iff_ne]; omega
            go_wp2_with (at_builtin; refine wpList_append_bytes _ rfl _ _ rfl w.heap.size _ k _ rfl (HO.out.alloc _) _ [clr k x] rfl (FIN.out _ HC.out) ?_ ?_ ?_)
            · simp; omega
            · have := HG.out.size; simp; omega
            intro v' w' ho hg hat
            have HO' := Lib.hid ho
            have HG' := Lib.hid hg
            clear ho hg hat
            go_wp2
            go_roundw
            case rel =>
              refine ⟨k + 1, by omega, by go_num, ?_, grown_new (grown_alloc HG.out _) HG'.out (fun b hb => (HO.out.lt b hb).1)⟩
              rw [HM.out, bytesV_app]
              exact HO'.out
            case measure => simp [intOf]; omega
    · have hk16 : k = 16 := by omega
      subst hk16
      rw [List.take_of_length_le (by rw [clampB_len]; exact Nat.le_refl _)] at HO
      clear hk hlt
      go_wp2
      go_ret
      exact ⟨_, rfl, Rd.of_own HO.out, HG.out, fun b hb => by
        rcases HO.out.2 with ⟨rfl, _⟩ | ⟨gg, cc, cur, rfl, hbase, hcells, _⟩
        · cases hb
        · cases hb; exact ⟨hbase, (Array.getElem?_eq_some_iff.1 hcells).1⟩⟩
end Go.Proofs.Ytjcbdplbekecjaa

/-
  The document's own Tag over this program.
-/
namespace Go.Proofs.Ytjcbdplbekecjaa
open Go.RowKit

theorem slice_16 (A : Option Addr) (c : Nat) (hc : 32 ≤ c) (w : World) : (Instr.sliceAt 24 (.slice A 32 c) none (some (.int .i64 16)) none).run Try.prog w = .ok (.slice A 16 c) w := by
  simp [Instr.sliceAt, go_sem, Instr.sliceBounds, Instr.slice, run_underlying Try.underlying24]
  omega
theorem dg_list (l : List Nat) (h : Lt 256 l) : Dg l (val 256 l) := by
  have := dg_digs l.length (val 256 l) (val_lt 256 l h)
  rwa [digs_val 256 l h] at this
theorem dg_blk (b : List UInt8) (n : Nat) : Dg (byt (chunk b n) ++ [1]) (blk b n) := by
  have h := dg_list (byt (chunk b n) ++ [1]) (fun x hx => by
    rcases List.mem_append.1 hx with h | h
    · exact byt_lt _ x h
    · simp at h; omega)
  rw [val_append, byt_len] at h
  have e : val 256 (byt (chunk b n)) + 256 ^ (chunk b n).length * val 256 [1] = blk b n := by
    unfold blk le
    simp [val]
  rw [e] at h
  exact h
theorem byt_more (l : List UInt8) (i : Nat) (h : i < l.length) : byt (l.take (i + 1)) = byt (l.take i) ++ [(l.getD i 0).toNat] := by
  rw [List.take_add_one, List.getElem?_eq_getElem h, byt_app]
  simp [byt, List.getElem?_eq_getElem h]
theorem chunk_at (b : List UInt8) (n i : Nat) (h : i < (chunk b n).length) : (chunk b n).getD i 0 = b.getD (16 * n + i) 0 := by
  rw [chunk_len] at h
  simp only [chunk, List.getD_eq_getElem?_getD, List.getElem?_take, List.getElem?_drop]
  rw [if_pos (by omega)]
theorem leB_more (n v : Nat) : leB (n + 1) v = leB n v ++ [UInt8.ofNat (v / 256 ^ n % 256)] := by
  unfold leB
  rw [digs_more]
  simp
theorem modmul (x R : Nat) : x % PP * R % PP = x * R % PP := by
  rw [Nat.mul_mod, Nat.mod_mod, ← Nat.mul_mod]
/-- What a call answers that reads as bytes, and turns nothing old. -/
def OutB (w : World) (l : List UInt8) (e : Ending) (w' : World) : Prop := ∃ v, e = .returned v ∧ Rd w' v (bytesV l) ∧ w.grownBy w' none

set_option maxHeartbeats 16000000 in
theorem rtag_any (vk vb : Value) (key b : List UInt8) (hk : key.length = 32) (hb : b.length ≤ 1000) (w : World) (h1 : Rd w vk (bytesV key)) (h2 : Rd w vb (bytesV b)) :
    Calls Try.prog 19 #[vk, vb] w (OutB w (tagB key b)) := by
  have H1 := Lib.hid h1
  have H2 := Lib.hid h2
  have HK := Lib.hid hk
  obtain ⟨A1, c1, rfl⟩ := h1.form
  obtain ⟨A2, c2, rfl⟩ := h2.form
  have hc1 := h1.len.2
  have hc2 := h2.len.2
  rw [bytesV_len] at hc1 hc2 h1 h2 H1 H2 ⊢
  rw [hk] at hc1 h1 H1 ⊢
  rw [bytesV_len]
  generalize hm : b.length = m at *
  have HM := Lib.hid hm
  obtain ⟨ad1, rfl, hcl1⟩ := h1.cells (by intro e; have := congrArg List.length e; rw [bytesV_len, hk] at this; simp at this)
  have HC1 := Lib.hid (show ∀ (W : World), w.grownBy W none → ∀ k, k < 32 → W.cell? (ad1.add k) = some (.int .u8 ((key.getD k 0).toNat : Int)) from fun W hW k hk' => by
    have hc0 := hcl1 k _ (bytesV_at key k (by omega))
    exact (World.cell?_of_block (hW.block _ (World.block_lt_of_cell? w _ hc0) (by simp))).trans hc0)
  have hsl := slice_16 (some ad1) c1 hc1.1
  have HT16 := Lib.hid (show Rd w (.slice (some ad1) 16 c1) (bytesV (key.take 16)) by
    have := h1.take (n := 16) (d := c1) (by decide) (by omega) (Nat.le_refl _)
    rw [show (bytesV key).take 16 = bytesV (key.take 16) by simp [bytesV, List.map_take]] at this
    exact this)
  have htl : (key.take 16).length = 16 := by rw [List.length_take, hk]; rfl
  have CC := Lib.hid (rclamp_any _ (key.take 16) htl w HT16.out)
  rw [clampB_take] at CC
  have HTAG := Lib.hid (show tagB key b = leB 16 (accAt (le (clampB key)) b ((m + 15) / 16) + le (key.drop 16)) by unfold tagB accOf; rw [hm])
  have HRL := Lib.hid (clampB_len key)
  unfold maxLen at hc1 hc2
  clear h1 h2 hcl1 htl hk hm HT16
  go_enter Try.func19, Try.ntmps19
  go_wp2_with fail
  refine CC.out.mono ?_
  rintro e w1 ⟨vr, rfl, hvr, hg1, _⟩
  have HVR := Lib.hid hvr
  have HG1 := Lib.hid hg1
  generalize clampB key = rb at *
  generalize hR : le rb = R at *
  have HR := Lib.hid hR
  clear hvr hg1 hR CC hsl
  go_wp2_with (refine wpList_make_ints _ rfl _ _ rfl 18 rfl rfl (by decide) ?_; intro w2 hr2 hg2)
  have HA2 := Lib.hid (hr2.rds 18 18 (by rw [intsV_len]; rfl) (by decide) (by decide))
  have HVR2 := Lib.hid (HVR.out.grown0 hg2)
  have HG2 := Lib.hid (HG1.out.trans hg2)
  clear hr2 hg2 HVR HG1
  go_loopw [6, 7] (fun u i W => ∃ n : Nat, 16 * n < m + 16 ∧ i = .int .i64 ((16 * n : Nat) : Int) ∧ Rd W u (intsV (digs 256 18 (accAt R b n))) ∧ Rd W vr (bytesV rb) ∧ w.grownBy W none) (fun _ i _ => m + 16 - (intOf i).toNat)
  case atStart => exact ⟨0, by omega, rfl, by rw [show accAt R b 0 = 0 from rfl, digs_zero]; exact HA2.out, HVR2.out, HG2.out⟩
  case round =>
    clear HA2 HVR2 HG2
    obtain ⟨n, hn, rfl, ha, hvr, hg⟩ := hrel
    have HA := Lib.hid ha
    have HVR := Lib.hid hvr
    have HG := Lib.hid hg
    clear ha hvr hg
    generalize hN : 16 * n = N at *
    have HN := Lib.hid hN
    by_cases hlt : N < m
    · have hdec : decide ((N : Int) < (m : Int)) = true := by simp; omega
      have hcl : (chunk b n).length = min 16 (m - N) := by rw [chunk_len, HM.out, hN]
      have HCL := Lib.hid hcl
      have HCA := Lib.hid (fun i (h : i < (chunk b n).length) => chunk_at b n i h)
      rw [hN] at HCA
      generalize hM : min 16 (m - N) = M at *
      have hMb : M ≤ 16 := by omega
      have HBK := Lib.hid (dg_blk b n)
      have HAC := Lib.hid (show accAt R b (n + 1) = (accAt R b n + blk b n) * R % PP from rfl)
      have HAL := Lib.hid (accAt_lt R b n)
      have HBL := Lib.hid (blk_lt b n)
      clear hcl hN
      obtain ⟨W0, hW0⟩ : ∃ W0, W0 = wr := ⟨_, rfl⟩
      subst hW0
      go_wp2
      go_loopw [8, 9] (fun u q W => ∃ i : Nat, i ≤ M ∧ q = .int .i64 ((N + i : Nat) : Int) ∧ W.ownsRow W0.heap.size 3 1 u i (intsV (byt ((chunk b n).take i))) ∧ W0.grownBy W none) (fun _ q _ => m + 1 - (intOf q).toNat)
      case atStart => exact ⟨0, Nat.zero_le _, rfl, World.ownsRow_nil _ _ _ _, grown_refl _ _⟩
      case round =>
        obtain ⟨i, hi, rfl, ho, hg⟩ := hrel
        have HO := Lib.hid ho
        have HI := Lib.hid hg
        clear ho hg
        by_cases hil : i < M
        · obtain ⟨ad2, rfl, hcl2⟩ := (H2.out.grown0 (HG.out.trans HI.out)).cells (by intro e; have := congrArg List.length e; rw [bytesV_len, HM.out] at this; simp at this; omega)
          have hc0 := hcl2 (N + i) _ (bytesV_at b (N + i) (by rw [HM.out]; omega))
          have hm1 := byt_more (chunk b n) i (by rw [HCL.out]; exact hil)
          rw [HCA.out i (by rw [HCL.out]; exact hil)] at hm1
          have HM1 := Lib.hid hm1
          have hx8 := UInt8.toNat_lt (b.getD (N + i) 0)
          generalize (b.getD (N + i) 0).toNat = x at *
          clear hm1 hcl2
          generalize hj : N + i = j at *
          have hj1 : j < m := by omega
          have hj2 : j < N + 16 := by omega
          go_wp2_with (at_builtin; refine wpList_append_ints _ rfl _ _ rfl W0.heap.size _ i _ rfl (HO.out.alloc _) _ [x] rfl (Rd.int1 wr x) ?_ ?_ ?_)
          · simp; omega
          · have := HI.out.size; simp; omega
          intro v' w' ho hg hat
          have HO' := Lib.hid ho
          have HI' := Lib.hid (grown_new (grown_alloc HI.out _) hg (fun b hb => (HO.out.lt b hb).1))
          clear ho hg hat
          go_wp2
          go_roundw
          case rel =>
            refine ⟨i + 1, by omega, congrArg (Value.int .i64) (by omega), ?_, HI'.out⟩
            rw [HM1.out, intsV_app]
            exact HO'.out
          case measure => simp [intOf]; omega
        · obtain rfl : i = M := by omega
          rw [List.take_of_length_le (by rw [HCL.out]; exact Nat.le_refl _)] at HO
          have hstop : ¬ (N + i < m ∧ N + i < N + 16) := by omega
          clear hi hil
          generalize hj : N + i = j at *
          by_cases hjm : j < m
          case' pos =>
            have hj2 : ¬ j < N + 16 := by omega
            go_wp2_with (at_builtin; refine wpList_append_ints _ rfl _ _ rfl W0.heap.size _ i _ rfl (HO.out.alloc _) _ [1] rfl (Rd.int1 wr 1) (by simp; omega) (by have := HI.out.size; simp; omega) ?_)
            intro v' w' ho hg hat
          case' neg =>
            have hj2 : ¬ j < m := hjm
            go_wp2_with (at_builtin; refine wpList_append_ints _ rfl _ _ rfl W0.heap.size _ i _ rfl (HO.out.alloc _) _ [1] rfl (Rd.int1 wr 1) (by simp; omega) (by have := HI.out.size; simp; omega) ?_)
            intro v' w' ho hg hat
          all_goals
            have HX := Lib.hid (show Rd w' v' (intsV (byt (chunk b n) ++ [1])) by
              have := Rd.of_own ho
              rw [← intsV_app] at this
              exact this)
            have hgi : W0.grownBy w' none := grown_new (grown_alloc HI.out _) hg (fun b hb => (HO.out.lt b hb).1)
            have HA6 := Lib.hid (HA.out.grown0 hgi)
            have HVR6 := Lib.hid (HVR.out.grown0 hgi)
            have HG6 := Lib.hid (HG.out.trans hgi)
            clear ho hg hat hgi hjm hj2 hstop
            have hpp : PP < 256 ^ 17 := by decide
            have HPP := Lib.hid hpp
            clear hpp
            go_wp2_with fail
            refine (add_any _ _ (digs 256 18 (accAt R b n)) (byt (chunk b n) ++ [1]) (accAt R b n) (blk b n) 18 (by decide) w' HA6.out HX.out (dg_digs 18 _ (by have := HAL.out; have := HPP.out; omega)) HBK.out).mono ?_
            rintro e w7 ⟨v7, rfl, hr7, hg7⟩
            have HR7 := Lib.hid hr7
            have HVR7 := Lib.hid (HVR6.out.grown0 hg7)
            have HG7 := Lib.hid (HG6.out.trans hg7)
            clear hr7 hg7 HA6 HVR6 HG6 HX
            go_wp2_with fail
            refine (mod_any _ (accAt R b n + blk b n) (by have := HAL.out; have := HBL.out; have := HPP.out; omega) w7 HR7.out).mono ?_
            rintro e w8 ⟨v8, rfl, hr8, hg8⟩
            have HR8 := Lib.hid hr8
            have HVR8 := Lib.hid (HVR7.out.grown0 hg8)
            have HG8 := Lib.hid (HG7.out.trans hg8)
            clear hr8 hg8 HR7 HVR7 HG7
            go_wp2_with fail
            refine (rtimes_any v8 vr ((accAt R b n + blk b n) % PP) (Nat.lt_trans (Nat.mod_lt _ (by decide)) HPP.out) rb HRL.out w8 HR8.out HVR8.out).mono ?_
            rintro e w9 ⟨v9, rfl, hr9, hg9⟩
            rw [modmul, HR.out, ← HAC.out] at hr9
            have HR9 := Lib.hid hr9
            have HVR9 := Lib.hid (HVR8.out.grown0 hg9)
            have HG9 := Lib.hid (HG8.out.trans hg9)
            clear hr9 hg9 HR8 HVR8 HG8
            go_wp2
            go_roundw
            case rel =>
              have h16 := HN.out
              exact ⟨n + 1, by omega, congrArg (Value.int .i64) (by omega), HR9.out, HVR9.out, HG9.out⟩
            case measure => simp [intOf]; omega
    · have hnn : n = (m + 15) / 16 := by have := HN.out; omega
      rw [hnn] at HA
      have hdec : decide ((N : Int) < (m : Int)) = false := by simp; omega
      generalize hT : accAt R b ((m + 15) / 16) = T at *
      have HTL := Lib.hid (show T < 256 ^ 18 by rw [← hT]; exact Nat.lt_trans (accAt_lt R b ((m + 15) / 16)) (by decide))
      clear hnn hn hT
      obtain ⟨W0, hW0⟩ : ∃ W0, W0 = wr := ⟨_, rfl⟩
      subst hW0
      go_wp2
      go_loopw [10, 11] (fun u q W => ∃ i : Nat, i ≤ 16 ∧ q = .int .i64 ((16 + i : Nat) : Int) ∧ W.ownsRow W0.heap.size 3 1 u i (intsV (byt ((key.drop 16).take i))) ∧ W0.grownBy W none) (fun _ q _ => 33 - (intOf q).toNat)
      case atStart => exact ⟨0, Nat.zero_le _, rfl, World.ownsRow_nil _ _ _ _, grown_refl _ _⟩
      case round =>
        obtain ⟨i, hi, rfl, ho, hg⟩ := hrel
        have HO := Lib.hid ho
        have HI := Lib.hid hg
        clear ho hg
        have hdl : (key.drop 16).length = 16 := by rw [List.length_drop, HK.out]
        by_cases hil : i < 16
        · have hc0 := HC1.out wr (HG.out.trans HI.out) (16 + i) (by omega)
          have hm1 := byt_more (key.drop 16) i (by rw [hdl]; exact hil)
          rw [show (key.drop 16).getD i 0 = key.getD (16 + i) 0 by simp [List.getD_eq_getElem?_getD]] at hm1
          have HM1 := Lib.hid hm1
          have hx8 := UInt8.toNat_lt (key.getD (16 + i) 0)
          generalize (key.getD (16 + i) 0).toNat = x at *
          clear hm1 hdl
          generalize hj : 16 + i = j at *
          have hj1 : decide ((j : Int) < 32) = true := by simp; omega
          go_wp2_with (at_builtin; refine wpList_append_ints _ rfl _ _ rfl W0.heap.size _ i _ rfl (HO.out.alloc _) _ [x] rfl (Rd.int1 wr x) ?_ ?_ ?_)
          · simp; omega
          · have := HI.out.size; simp; omega
          intro v' w' ho hg hat
          have HO' := Lib.hid ho
          have HI' := Lib.hid (grown_new (grown_alloc HI.out _) hg (fun b hb => (HO.out.lt b hb).1))
          clear ho hg hat
          go_wp2
          go_roundw
          case rel =>
            refine ⟨i + 1, by omega, congrArg (Value.int .i64) (by omega), ?_, HI'.out⟩
            rw [HM1.out, intsV_app]
            exact HO'.out
          case measure => simp [intOf]; omega
        · obtain rfl : i = 16 := by omega
          rw [List.take_of_length_le (by rw [hdl]; exact Nat.le_refl _)] at HO
          have HS := Lib.hid (Rd.of_own HO.out)
          have HDS := Lib.hid (show Dg (byt (key.drop 16)) (le (key.drop 16)) from dg_list _ (byt_lt _))
          have HA6 := Lib.hid (HA.out.grown0 HI.out)
          have HG6 := Lib.hid (HG.out.trans HI.out)
          generalize le (key.drop 16) = S at *
          clear hi hil hdl
          go_wp2_with fail
          refine (add_any _ _ (digs 256 18 T) (byt (key.drop 16)) T S 16 (by decide) wr HA6.out HS.out (dg_digs 18 _ HTL.out) HDS.out).mono ?_
          rintro e w7 ⟨v7, rfl, hr7, hg7⟩
          obtain ⟨A7, c7, rfl⟩ := hr7.form
          rw [intsV_len, digs_len] at hr7 ⊢
          have HR7 := Lib.hid hr7
          have HG7 := Lib.hid (HG6.out.trans hg7)
          clear hr7 hg7 HA6 HG6 HS HO HI
          go_wp2
          go_loopw [13, 14] (fun u q W => ∃ i : Nat, i ≤ 16 ∧ q = .int .i64 i ∧ W.ownsRow w7.heap.size 5 1 u i (bytesV (leB i (T + S))) ∧ w7.grownBy W none) (fun _ q _ => 17 - (intOf q).toNat)
          case atStart => exact ⟨0, Nat.zero_le _, rfl, World.ownsRow_nil _ _ _ _, grown_refl _ _⟩
          case round =>
            obtain ⟨i, hi, rfl, ho, hg⟩ := hrel
            have HO := Lib.hid ho
            have HI := Lib.hid hg
            clear ho hg
            by_cases hil : i < 16
            · obtain ⟨ad7, rfl, hc0⟩ := (HR7.out.grown0 HI.out).num i (by rw [digs_len]; exact hil)
              rw [digs_at 256 16 _ i hil] at hc0
              have HM1 := Lib.hid (leB_more i (T + S))
              have hx8 : (T + S) / 256 ^ i % 256 < 256 := Nat.mod_lt _ (by decide)
              generalize (T + S) / 256 ^ i % 256 = x at *
              have HX := Lib.hid (show (x : Int) = ((UInt8.ofNat x).toNat : Int) by rw [UInt8.toNat_ofNat']; omega)
              have HB1 := Lib.hid (show Rd (wr.alloc (.cells #[.int .u8 (x : Int)] 5)) (.slice (some ⟨wr.heap.size, 0, none⟩) 1 1) (bytesV [UInt8.ofNat x]) by rw [HX.out]; exact Rd.byte1 wr _)
              have hd : decide ((i : Int) < 16) = true := by simp; omega
              go_wp2_with (at_builtin; refine wpList_append_bytes _ rfl _ _ rfl w7.heap.size _ i _ rfl (HO.out.alloc _) _ [UInt8.ofNat x] rfl HB1.out ?_ ?_ ?_)
              · simp; omega
              · have := HI.out.size; simp; omega
              intro v' w' ho hg hat
              have HO' := Lib.hid ho
              have HI' := Lib.hid (grown_new (grown_alloc HI.out _) hg (fun b hb => (HO.out.lt b hb).1))
              clear ho hg hat
              go_wp2
              go_roundw
              case rel =>
                refine ⟨i + 1, by omega, by go_num, ?_, HI'.out⟩
                rw [HM1.out, bytesV_app]
                exact HO'.out
              case measure => simp [intOf]; omega
            · obtain rfl : i = 16 := by omega
              clear hi hil
              go_wp2
              go_ret
              exact ⟨_, rfl, by rw [HTAG.out]; exact Rd.of_own HO.out, HG7.out.trans HI.out⟩
end Go.Proofs.Ytjcbdplbekecjaa
