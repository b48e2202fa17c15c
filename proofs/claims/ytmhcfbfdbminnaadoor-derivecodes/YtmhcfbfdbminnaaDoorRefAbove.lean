/-
  The document's own 'above' over this program: is the first number above the second one?
-/
import Derived.Test.YtmhcfbfdbminnaaDoorAppInts
import Derived.Test.YtmhcfbfdbminnaaDoorRootN
namespace Go.Proofs.YtmhcfbfdbminnaaDoor
open Go.RowKit

theorem getD_far (l : List Nat) (k : Nat) (h : l.length ≤ k) : l.getD k 0 = 0 := by simp [List.getD_eq_getElem?_getD, List.getElem?_eq_none h]

set_option maxHeartbeats 4000000 in
theorem above_any (v1 v2 : Value) (a b : List Nat) (w : World) (h1 : Rd w v1 (intsV a)) (h2 : Rd w v2 (intsV b)) (hla : a.length ≤ 100) (hlb : b.length ≤ 100) :
    Calls Tryd.prog 44 #[v1, v2] w fun e w' => e = .returned (.bool (aboveN a b)) ∧ w' = w := by
  have H1 := Lib.hid h1
  have H2 := Lib.hid h2
  obtain ⟨A1, c1, rfl⟩ := h1.form
  obtain ⟨A2, c2, rfl⟩ := h2.form
  have hc1 := h1.len.2
  have hc2 := h2.len.2
  simp only [intsV_len] at *
  unfold maxLen at hc1 hc2
  generalize hn1 : a.length = n1 at *
  generalize hn2 : b.length = n2 at *
  have hab : aboveN a b = aboveK a b (max n1 n2) := by unfold aboveN; rw [hn1, hn2]
  have HAB := Lib.hid hab
  have HN1 := Lib.hid hn1
  have HN2 := Lib.hid hn2
  generalize hm : max n1 n2 = m at *
  have hm1 : max (n1 : Int) (n2 : Int) = (m : Int) := by omega
  have hmm : m ≤ 100 := by omega
  clear h1 h2 hn1 hn2 hab
  by_cases hmx : n1 < n2
  · skip
    go_enter Tryd.func44, Tryd.ntmps44
    go_wp2
    go_loop [5] (fun i => ∃ k : Nat, k ≤ m ∧ i = .int .i64 ((k : Int) - 1) ∧ aboveK a b m = aboveK a b k) (fun i => (intOf i + 1).toNat)
    case atStart => exact ⟨m, Nat.le_refl _, congrArg (Value.int .i64) (by omega), rfl⟩
    case round =>
      obtain ⟨k, hk, rfl, hab⟩ := hrel
      cases k with
      | zero =>
        have hq : decide ((0 : Int) ≤ ((0 : Nat) : Int) - 1) = false := by decide
        have hf : aboveN a b = false := by rw [HAB.out, hab]; rfl
        have HF := Lib.hid hf
        clear hab hf
        go_wp2
        go_ret
        exact ⟨by rw [HF.out]; first | rfl | simp, rfl⟩
      | succ k =>
        have hq : (((k + 1 : Nat) : Int) - 1) = (k : Int) := by omega
        rw [hq] at *
        have hx : ∃ x : Nat, a.getD k 0 = x := ⟨_, rfl⟩
        have hy : ∃ y : Nat, b.getD k 0 = y := ⟨_, rfl⟩
        obtain ⟨x, hx⟩ := hx
        obtain ⟨y, hy⟩ := hy
        have hstep : aboveK a b (k + 1) = if x = y then aboveK a b k else decide (y < x) := by
          show (if a.getD k 0 = b.getD k 0 then aboveK a b k else decide (b.getD k 0 < a.getD k 0)) = _
          rw [hx, hy]
        have HST := Lib.hid (hab.trans hstep)
        have HX := Lib.hid hx
        have HY := Lib.hid hy
        clear hstep hab hx hy hq
        have c1' : k < n1 → ∃ ad, A1 = some ad ∧ w.cell? (ad.add k) = some (.int .i64 (x : Int)) := fun h => by
          have := H1.out.num k (by rw [HN1.out]; exact h)
          rw [HX.out] at this
          exact this
        have c2' : k < n2 → ∃ ad, A2 = some ad ∧ w.cell? (ad.add k) = some (.int .i64 (y : Int)) := fun h => by
          have := H2.out.num k (by rw [HN2.out]; exact h)
          rw [HY.out] at this
          exact this
        have z1 : ¬ k < n1 → x = 0 := fun h => by rw [← HX.out, getD_far _ _ (by rw [HN1.out]; omega)]
        have z2 : ¬ k < n2 → y = 0 := fun h => by rw [← HY.out, getD_far _ _ (by rw [HN2.out]; omega)]
        have C1 := Lib.hid c1'
        have C2 := Lib.hid c2'
        have Z1 := Lib.hid z1
        have Z2 := Lib.hid z2
        clear c1' c2' z1 z2
        by_cases hk1 : k < n1
        · obtain ⟨ad1, rfl, cc1⟩ := C1.out hk1
          by_cases hk2 : k < n2
          · obtain ⟨ad2, rfl, cc2⟩ := C2.out hk2
            by_cases hxy : x = y
            · subst hxy
              go_wp2
              go_round
              case rel => exact ⟨k, by omega, by go_num, by have := HST.out; simpa using this⟩
              case measure => (simp [intOf]; try omega)
            · have hne : ((x : Int) != (y : Int)) = true := by simp; omega
              have hr : aboveN a b = decide (y < x) := by rw [HAB.out, HST.out, if_neg hxy]
              have HF := Lib.hid hr
              clear hr
              go_wp2
              go_ret
              exact ⟨by rw [HF.out]; first | rfl | simp, rfl⟩
          · obtain rfl := Z2.out hk2
            by_cases hxy : x = 0
            · subst hxy
              go_wp2
              go_round
              case rel => exact ⟨k, by omega, by go_num, by have := HST.out; simpa using this⟩
              case measure => (simp [intOf]; try omega)
            · have hne : ((x : Int) != 0) = true := by simp; omega
              have hr : aboveN a b = decide (0 < x) := by rw [HAB.out, HST.out, if_neg hxy]
              have HF := Lib.hid hr
              clear hr
              go_wp2
              go_ret
              exact ⟨by rw [HF.out]; first | rfl | simp, rfl⟩
        · obtain rfl := Z1.out hk1
          by_cases hk2 : k < n2
          · obtain ⟨ad2, rfl, cc2⟩ := C2.out hk2
            by_cases hxy : 0 = y
            · subst hxy
              go_wp2
              go_round
              case rel => exact ⟨k, by omega, by go_num, by have := HST.out; simpa using this⟩
              case measure => (simp [intOf]; try omega)
            · have hne : ((0 : Int) != (y : Int)) = true := by simp; omega
              have hr : aboveN a b = false := by rw [HAB.out, HST.out, if_neg hxy]; simp
              have HF := Lib.hid hr
              clear hr
              go_wp2
              go_ret
              exact ⟨by rw [HF.out]; first | rfl | simp, rfl⟩
          · omega
  · skip
    go_enter Tryd.func44, Tryd.ntmps44
    go_wp2
    go_loop [5] (fun i => ∃ k : Nat, k ≤ m ∧ i = .int .i64 ((k : Int) - 1) ∧ aboveK a b m = aboveK a b k) (fun i => (intOf i + 1).toNat)
    case atStart => exact ⟨m, Nat.le_refl _, congrArg (Value.int .i64) (by omega), rfl⟩
    case round =>
      obtain ⟨k, hk, rfl, hab⟩ := hrel
      cases k with
      | zero =>
        have hq : decide ((0 : Int) ≤ ((0 : Nat) : Int) - 1) = false := by decide
        have hf : aboveN a b = false := by rw [HAB.out, hab]; rfl
        have HF := Lib.hid hf
        clear hab hf
        go_wp2
        go_ret
        exact ⟨by rw [HF.out]; first | rfl | simp, rfl⟩
      | succ k =>
        have hq : (((k + 1 : Nat) : Int) - 1) = (k : Int) := by omega
        rw [hq] at *
        have hx : ∃ x : Nat, a.getD k 0 = x := ⟨_, rfl⟩
        have hy : ∃ y : Nat, b.getD k 0 = y := ⟨_, rfl⟩
        obtain ⟨x, hx⟩ := hx
        obtain ⟨y, hy⟩ := hy
        have hstep : aboveK a b (k + 1) = if x = y then aboveK a b k else decide (y < x) := by
          show (if a.getD k 0 = b.getD k 0 then aboveK a b k else decide (b.getD k 0 < a.getD k 0)) = _
          rw [hx, hy]
        have HST := Lib.hid (hab.trans hstep)
        have HX := Lib.hid hx
        have HY := Lib.hid hy
        clear hstep hab hx hy hq
        have c1' : k < n1 → ∃ ad, A1 = some ad ∧ w.cell? (ad.add k) = some (.int .i64 (x : Int)) := fun h => by
          have := H1.out.num k (by rw [HN1.out]; exact h)
          rw [HX.out] at this
          exact this
        have c2' : k < n2 → ∃ ad, A2 = some ad ∧ w.cell? (ad.add k) = some (.int .i64 (y : Int)) := fun h => by
          have := H2.out.num k (by rw [HN2.out]; exact h)
          rw [HY.out] at this
          exact this
        have z1 : ¬ k < n1 → x = 0 := fun h => by rw [← HX.out, getD_far _ _ (by rw [HN1.out]; omega)]
        have z2 : ¬ k < n2 → y = 0 := fun h => by rw [← HY.out, getD_far _ _ (by rw [HN2.out]; omega)]
        have C1 := Lib.hid c1'
        have C2 := Lib.hid c2'
        have Z1 := Lib.hid z1
        have Z2 := Lib.hid z2
        clear c1' c2' z1 z2
        by_cases hk1 : k < n1
        · obtain ⟨ad1, rfl, cc1⟩ := C1.out hk1
          by_cases hk2 : k < n2
          · obtain ⟨ad2, rfl, cc2⟩ := C2.out hk2
            by_cases hxy : x = y
            · subst hxy
              go_wp2
              go_round
              case rel => exact ⟨k, by omega, by go_num, by have := HST.out; simpa using this⟩
              case measure => (simp [intOf]; try omega)
            · have hne : ((x : Int) != (y : Int)) = true := by simp; omega
              have hr : aboveN a b = decide (y < x) := by rw [HAB.out, HST.out, if_neg hxy]
              have HF := Lib.hid hr
              clear hr
              go_wp2
              go_ret
              exact ⟨by rw [HF.out]; first | rfl | simp, rfl⟩
          · obtain rfl := Z2.out hk2
            by_cases hxy : x = 0
            · subst hxy
              go_wp2
              go_round
              case rel => exact ⟨k, by omega, by go_num, by have := HST.out; simpa using this⟩
              case measure => (simp [intOf]; try omega)
            · have hne : ((x : Int) != 0) = true := by simp; omega
              have hr : aboveN a b = decide (0 < x) := by rw [HAB.out, HST.out, if_neg hxy]
              have HF := Lib.hid hr
              clear hr
              go_wp2
              go_ret
              exact ⟨by rw [HF.out]; first | rfl | simp, rfl⟩
        · obtain rfl := Z1.out hk1
          by_cases hk2 : k < n2
          · obtain ⟨ad2, rfl, cc2⟩ := C2.out hk2
            by_cases hxy : 0 = y
            · subst hxy
              go_wp2
              go_round
              case rel => exact ⟨k, by omega, by go_num, by have := HST.out; simpa using this⟩
              case measure => (simp [intOf]; try omega)
            · have hne : ((0 : Int) != (y : Int)) = true := by simp; omega
              have hr : aboveN a b = false := by rw [HAB.out, HST.out, if_neg hxy]; simp
              have HF := Lib.hid hr
              clear hr
              go_wp2
              go_ret
              exact ⟨by rw [HF.out]; first | rfl | simp, rfl⟩
          · omega
end Go.Proofs.YtmhcfbfdbminnaaDoor
