/-
  Several texts in one file.
-/
import Derived.Test.YtiakkfcjdmecdaaDoorEnSame
import Derived.Test.YtiakkfcjdmecdaaDoorEnFl
import Derived.Test.YtiakkfcjdmecdaaDoorEnFine
import Derived.Test.YtiakkfcjdmecdaaDoorMPtR
import Derived.Test.YtiakkfcjdmecdaaDoorEnTold
/-
  What package entry asks of one entry: where its data end, and whether it may be.
-/
namespace Go.Proofs.YtiakkfcjdmecdaaDoor
set_option maxRecDepth 1000000
open Go.RowKit

/-- May an entry be, as the program asks it of one alone? -/
def kindE (e : En) : Bool :=
  if e.kind = 1 then decide (e.to.length = 0) && (decide (0 ≤ e.size) && decide (e.size ≤ 1048576))
  else if e.kind = 2 then decide (e.to.length = 0) && decide (e.size = 0)
  else if e.kind = 3 then !decide (e.to.length = 0) && decide (e.to.length ≤ 256) && decide (e.size = 0) else false
def rightE (e : En) : Bool := decide (0 ≤ e.mode) && decide (e.mode ≤ 4095) && (decide (0 ≤ e.time) && decide (e.time ≤ 1099511627775)) && kindE e
theorem rightE_is (e : En) : rightE e = (okE e && decide (e.size ≤ 1048576)) := by
  obtain ⟨p, k, m, t, o, b, s⟩ := e
  rw [Bool.eq_iff_iff]
  simp only [rightE, kindE, okE]
  generalize o.length = n
  by_cases h1 : k = 1
  · subst h1; simp; omega
  · by_cases h2 : k = 2
    · subst h2; simp [h1]; omega
    · by_cases h3 : k = 3
      · subst h3; simp [h1, h2]; omega
      · simp [h1, h2, h3]; omega

theorem end_any (e : En) (w : World) (h : I64 (e.beg + e.size)) :
    Calls Tryd.prog 43 #[enV e] w (Val (.int .i64 (e.beg + e.size)) w) := by
  obtain ⟨h1, h2⟩ := h
  go_enter Tryd.func43, Tryd.ntmps43
  simp only [enV, enC]
  go_wp2
  go_ret
  exact ⟨by go_num, grown_alloc (grown_refl _ _) _⟩

theorem within_any (n m : Int) (w : World) :
    Calls Tryd.prog 71 #[.int .i64 n, .int .i64 m] w (fun e w' => e = .returned (.bool (decide (0 ≤ n) && decide (n ≤ m))) ∧ w' = w) := by
  by_cases h : 0 ≤ n
  · go_enter Tryd.func71, Tryd.ntmps71
    go_wp2
    go_ret
    exact ⟨by simp [h], rfl⟩
  · go_enter Tryd.func71, Tryd.ntmps71
    go_wp2
    go_ret
    exact ⟨by simp; omega, rfl⟩

theorem bts_nil {t : List UInt8} (h : t.length = 0) : (bts t).toList = [] := by rw [bts_list]; exact List.length_eq_zero_iff.1 h
theorem bts_some {t : List UInt8} (h : ¬ t.length = 0) : ¬ (bts t).toList = [] := by rw [bts_list]; exact fun e => h (by rw [e]; rfl)
set_option maxHeartbeats 4000000 in
theorem kind_any (e : En) (w : World) :
    Calls Tryd.prog 72 #[enV e] w (Val (.bool (kindE e)) w) := by
  have HW := Lib.hid within_any
  obtain ⟨p, k, m, t, o, b, s⟩ := e
  have hsz := bts_size o
  have HK := Lib.hid (show kindE ⟨p, k, m, t, o, b, s⟩ = if k = 1 then decide (o.length = 0) && (decide (0 ≤ s) && decide (s ≤ 1048576))
    else if k = 2 then decide (o.length = 0) && decide (s = 0)
    else if k = 3 then !decide (o.length = 0) && decide (o.length ≤ 256) && decide (s = 0) else false from rfl)
  simp only [enV, enC]
  by_cases ho : o.length = 0
  · have hz := bts_nil ho
    by_cases h1 : k = 1
    · subst h1
      go_enter Tryd.func72, Tryd.ntmps72
      go_wp2_with fail
      refine (HW.out _ _ _).mono ?_
      rintro e w1 ⟨rfl, rfl⟩
      go_wp2
      go_ret
      exact ⟨by rw [HK.out]; simp [ho], grown_alloc (grown_refl _ _) _⟩
    · by_cases h2 : k = 2
      · subst h2
        by_cases h4 : s = 0
        · subst h4
          go_enter Tryd.func72, Tryd.ntmps72
          go_wp2
          go_ret
          exact ⟨by rw [HK.out]; simp [ho], grown_alloc (grown_refl _ _) _⟩
        · go_enter Tryd.func72, Tryd.ntmps72
          go_wp2
          go_ret
          exact ⟨by rw [HK.out]; simp [ho, h4], grown_alloc (grown_refl _ _) _⟩
      · by_cases h3 : k = 3
        · subst h3
          go_enter Tryd.func72, Tryd.ntmps72
          go_wp2
          go_ret
          exact ⟨by rw [HK.out]; simp [ho], grown_alloc (grown_refl _ _) _⟩
        · go_enter Tryd.func72, Tryd.ntmps72
          go_wp2
          go_ret
          exact ⟨by rw [HK.out]; simp [h1, h2, h3], grown_alloc (grown_refl _ _) _⟩
  · have hz := bts_some ho
    by_cases h1 : k = 1
    · subst h1
      go_enter Tryd.func72, Tryd.ntmps72
      go_wp2
      go_ret
      exact ⟨by rw [HK.out]; simp [ho], grown_alloc (grown_refl _ _) _⟩
    · by_cases h2 : k = 2
      · subst h2
        go_enter Tryd.func72, Tryd.ntmps72
        go_wp2
        go_ret
        exact ⟨by rw [HK.out]; simp [ho], grown_alloc (grown_refl _ _) _⟩
      · by_cases h3 : k = 3
        · subst h3
          by_cases h5 : o.length ≤ 256
          · by_cases h4 : s = 0
            · subst h4
              go_enter Tryd.func72, Tryd.ntmps72
              go_wp2
              go_ret
              exact ⟨by rw [HK.out]; simp [ho, h5, hz], grown_alloc (grown_refl _ _) _⟩
            · go_enter Tryd.func72, Tryd.ntmps72
              go_wp2
              go_ret
              exact ⟨by rw [HK.out]; simp [ho, h5, h4], grown_alloc (grown_refl _ _) _⟩
          · go_enter Tryd.func72, Tryd.ntmps72
            go_wp2
            go_ret
            exact ⟨by rw [HK.out]; simp [ho, h5], grown_alloc (grown_refl _ _) _⟩
        · go_enter Tryd.func72, Tryd.ntmps72
          go_wp2
          go_ret
          exact ⟨by rw [HK.out]; simp [h1, h2, h3], grown_alloc (grown_refl _ _) _⟩

set_option maxHeartbeats 4000000 in
theorem eright_any (e : En) (w : World) :
    Calls Tryd.prog 48 #[enV e] w (Val (.bool (rightE e)) w) := by
  have HW := Lib.hid within_any
  have HR := Lib.hid (show rightE e = (decide (0 ≤ e.mode) && decide (e.mode ≤ 4095) && (decide (0 ≤ e.time) && decide (e.time ≤ 1099511627775)) && kindE e) from rfl)
  have HK := Lib.hid (kind_any e)
  go_enter Tryd.func48, Tryd.ntmps48
  simp only [enV, enC] at *
  go_wp2_with fail
  refine (HW.out _ _ _).mono ?_
  rintro e1 w1 ⟨rfl, rfl⟩
  cases hm : decide (0 ≤ e.mode) && decide (e.mode ≤ 4095)
  · go_wp2
    go_ret
    exact ⟨by rw [HR.out, hm]; rfl, grown_alloc (grown_refl _ _) _⟩
  · go_wp2_with fail
    refine (HW.out _ _ _).mono ?_
    rintro e1 w1 ⟨rfl, rfl⟩
    cases ht : decide (0 ≤ e.time) && decide (e.time ≤ 1099511627775)
    · go_wp2
      go_ret
      exact ⟨by rw [HR.out, hm, ht]; rfl, grown_alloc (grown_refl _ _) _⟩
    · go_wp2_with fail
      refine (HK.out _).mono ?_
      rintro e1 w1 ⟨rfl, hg⟩
      have HG := Lib.hid hg
      clear hg
      go_wp2
      go_ret
      exact ⟨by rw [HR.out, hm, ht]; rfl, (grown_alloc (grown_refl _ _) _).trans HG.out⟩
end Go.Proofs.YtiakkfcjdmecdaaDoor

/-
  slices.IndexFunc and what package entry makes of it, over this program: with each function that is handed to it, by its contract.
-/
namespace Go.Proofs.YtiakkfcjdmecdaaDoor
set_option maxRecDepth 1000000
open Go.RowKit

/-- The first of n places at which b holds; -1 where there is none. -/
def firstAt (b : Nat → Bool) (n : Nat) (i : Int) : Prop := (i = -1 ∧ ∀ j, j < n → b j = false) ∨ ∃ k : Nat, i = (k : Int) ∧ k < n ∧ b k = true ∧ ∀ j, j < k → b j = false

theorem first_not {b : Nat → Bool} {n : Nat} {i : Int} (h : firstAt b n i) : (decide (0 ≤ i) = false) ↔ ∀ j, j < n → b j = false := by
  rcases h with ⟨rfl, h⟩ | ⟨k, rfl, h1, h2, h3⟩
  · exact ⟨fun _ => h, fun _ => by decide⟩
  · have : decide ((0 : Int) ≤ (k : Int)) = true := decide_eq_true (by omega)
    rw [this]
    refine ⟨fun h => ?_, fun h => ?_⟩
    · cases h
    · rw [h k h1] at h2; cases h2
def flV (f : Fl) (u : Value) : Value := .agg (flC f u).toArray
set_option maxHeartbeats 4000000 in
theorem idxAll_any (g : Nat) (I : Nat → World → Prop) (b : Nat → Bool) (row : Option Nat) (A : Option Addr) (n c : Nat) (l : List En) (w : World) (hn : l.length = n) (hnb : n ≤ 1000000)
    (HR : ∀ k W, I k W → RdE W (.slice A n c) l)
    (H : ∀ k W, k < n → I k W → Calls Tryd.prog 70 #[enV (l.getD k default), .pointer (some ⟨g, 0, none⟩)] W (fun e W' => e = .returned (.bool (b k)) ∧ I (k + 1) W' ∧ W.grownBy W' row))
    (h0 : I 0 w) :
    Calls Tryd.prog 41 #[.slice A n c, .func (.func 70) #[] #[.pointer (some ⟨g, 0, none⟩)]] w
      (fun e w' => ∃ i : Int, e = .returned (.int .i64 i) ∧ firstAt b n i ∧ (∃ k, I k w') ∧ w.grownBy w' row) := by
  have HR := Lib.hid HR
  have HC := Lib.hid H
  clear H
  go_enter Tryd.func41, Tryd.ntmps41
  go_wp2
  go_loopw [8] (fun i W => ∃ k : Nat, i = .int .i64 k ∧ k ≤ n ∧ (∀ j, j < k → b j = false) ∧ I k W ∧ w.grownBy W row) (fun i _ => n - (intOf i).toNat)
  case atStart => exact ⟨0, rfl, Nat.zero_le _, fun j hj => absurd hj (Nat.not_lt_zero _), h0, grown_refl _ _⟩
  case round =>
    obtain ⟨k, rfl, hk, hall, hi, hg⟩ := hrel
    have HA := Lib.hid hall
    have HG := Lib.hid hg
    have HI := Lib.hid hi
    clear hall hg hi
    by_cases h : k < n
    · obtain ⟨ad, rfl, q0, q1, q2, q3, q4, q5, q6⟩ := (HR.out _ _ HI.out).step (k := k) (by omega)
      have HC1 := Lib.hid (HC.out k _ h HI.out)
      generalize l.getD k default = e at *
      go_wp2_with fail
      refine HC1.out.mono ?_
      rintro e1 w1 ⟨rfl, hi1, hg1⟩
      have HI1 := Lib.hid hi1
      have HG1 := Lib.hid (World.grownBy.trans HG.out hg1)
      clear hi1 hg1
      cases hb : b k
      · go_wp2
        go_roundw
        case rel =>
          refine ⟨k + 1, by go_num, by omega, fun j hj => ?_, HI1.out, HG1.out⟩
          by_cases e : j = k
          · rw [e]; exact hb
          · exact HA.out j (by omega)
        case measure =>
          simp [intOf]
          omega
      · go_wp2
        go_ret
        exact ⟨_, rfl, .inr ⟨k, rfl, h, hb, HA.out⟩, ⟨_, HI1.out⟩, HG1.out⟩
    · go_wp2
      go_ret
      exact ⟨_, rfl, .inl ⟨rfl, fun j hj => HA.out j (by omega)⟩, ⟨_, HI.out⟩, HG.out⟩
set_option maxHeartbeats 4000000 in
theorem allRight_any (I : Nat → World → Prop) (b : Nat → Bool) (row : Option Nat) (A : Option Addr) (n c : Nat) (l : List En) (w : World) (hn : l.length = n) (hnb : n ≤ 1000000)
    (hrow : ∀ r, row = some r → r < w.heap.size)
    (HR : ∀ k W, I k W → RdE W (.slice A n c) l)
    (HS : ∀ k W W', I k W → W.grownBy W' none → I k W')
    (H : ∀ k W, k < n → I k W → Calls Tryd.prog 48 #[enV (l.getD k default)] W (fun e W' => e = .returned (.bool (b k)) ∧ I (k + 1) W' ∧ W.grownBy W' row))
    (h0 : I 0 w) :
    Calls Tryd.prog 47 #[.slice A n c, .func (.func 48) #[] #[]] w
      (fun e w' => ∃ r, e = .returned (.bool r) ∧ (r = true ↔ ∀ j, j < n → b j = true) ∧ w.grownBy w' row) := by
  -- the closure: not what holds
  have H1 : ∀ (g k : Nat) (W : World), row ≠ some g → k < n → (I k W ∧ Row W g 70 [.func (.func 48) #[] #[]]) → Calls Tryd.prog 70 #[enV (l.getD k default), .pointer (some ⟨g, 0, none⟩)] W
      (fun e W' => e = .returned (.bool (!b k)) ∧ (I (k + 1) W' ∧ Row W' g 70 [.func (.func 48) #[] #[]]) ∧ W.grownBy W' row) := by
    rintro g k W hgr hk ⟨hi, hrw⟩
    have HRW := Lib.hid (fun o => (hrw.alloc o).cell (j := 0) rfl)
    have HIS := Lib.hid (fun o => HS k W (W.alloc o) hi (grown_alloc (grown_refl _ _) _))
    have HRR := Lib.hid (fun o => hrw.alloc o)
    have HH := Lib.hid (fun W => H k W hk)
    have HGR := Lib.hid hgr
    clear hi hrw hgr
    generalize l.getD k default = e at *
    go_enter Tryd.func70, Tryd.ntmps70
    simp only [enV, enC] at *
    have hc := HRW.out (.cells (enC e).toArray 38)
    simp only [enC] at hc
    go_wp2_with fail
    refine (HH.out _ (HIS.out _)).mono ?_
    rintro e1 w1 ⟨rfl, hi1, hg1⟩
    have HI1 := Lib.hid hi1
    have HG1 := Lib.hid hg1
    clear hi1 hg1 hc
    go_wp2
    go_ret
    exact ⟨rfl, ⟨HI1.out, (HRR.out _).grown HG1.out (fun e => HGR.out e.symm)⟩, (grown_alloc (grown_refl _ row) _).trans HG1.out⟩
  have H2 : ∀ (g : Nat) (W : World), row ≠ some g → (I 0 W ∧ Row W g 70 [.func (.func 48) #[] #[]]) → Calls Tryd.prog 69 #[.slice A n c, .func (.func 70) #[] #[.pointer (some ⟨g, 0, none⟩)]] W
      (fun e W' => ∃ r, e = .returned (.bool r) ∧ (r = false ↔ ∀ j, j < n → b j = true) ∧ W.grownBy W' row) := by
    intro g W hgr h
    have HX := Lib.hid (idxAll_any g (fun k W => I k W ∧ Row W g 70 [.func (.func 48) #[] #[]]) (fun k => !b k) row A n c l W hn hnb (fun k W h => HR k W h.1) (fun k W => H1 g k W hgr) h)
    clear H1 H HR HS hgr h h0
    go_enter Tryd.func69, Tryd.ntmps69
    go_wp2_with fail
    refine HX.out.mono ?_
    rintro e1 w1 ⟨i, rfl, hf, _, hg⟩
    have HG := Lib.hid hg
    have HF := Lib.hid hf
    clear hg hf HX
    go_wp2
    go_ret
    exact ⟨_, rfl, by rw [first_not HF.out]; simp, HG.out⟩
  have HX := Lib.hid (H2 w.heap.size (w.alloc (.cells #[.func (.func 48) #[] #[]] 70)) (fun e => absurd (hrow _ e) (Nat.lt_irrefl _)) ⟨HS _ _ _ h0 (grown_alloc (grown_refl _ _) _), Row.new _ _ _⟩)
  clear H1 H2 H HR HS h0
  go_enter Tryd.func47, Tryd.ntmps47
  go_wp2_with fail
  refine HX.out.mono ?_
  rintro e1 w1 ⟨r, rfl, hf, hg⟩
  have HG := Lib.hid hg
  have HF := Lib.hid hf
  clear hg hf HX
  go_wp2
  go_ret
  exact ⟨_, rfl, by rw [← HF.out]; cases r <;> simp, (grown_alloc (grown_refl _ row) _).trans HG.out⟩
set_option maxHeartbeats 4000000 in
theorem idxAllF_any (g : Nat) (I : Nat → World → Prop) (b : Nat → Bool) (row : Option Nat) (A : Option Addr) (n c : Nat) (l : List Fl) (w : World) (hn : l.length = n) (hnb : n ≤ 1000000)
    (HR : ∀ k W, I k W → RdF W (.slice A n c) l)
    (H : ∀ k W (A2 : Option Addr) (c2 : Nat), k < n → I k W → Rd W (.slice A2 (l.getD k default).data.length c2) (bytesV (l.getD k default).data) → Calls Tryd.prog 63 #[flV (l.getD k default) (.slice A2 (l.getD k default).data.length c2), .pointer (some ⟨g, 0, none⟩)] W (fun e W' => e = .returned (.bool (b k)) ∧ I (k + 1) W' ∧ W.grownBy W' row))
    (h0 : I 0 w) :
    Calls Tryd.prog 85 #[.slice A n c, .func (.func 63) #[] #[.pointer (some ⟨g, 0, none⟩)]] w
      (fun e w' => ∃ i : Int, e = .returned (.int .i64 i) ∧ firstAt b n i ∧ (∃ k, I k w') ∧ w.grownBy w' row) := by
  have HR := Lib.hid HR
  have HC := Lib.hid H
  clear H
  go_enter Tryd.func85, Tryd.ntmps85
  go_wp2
  go_loopw [8] (fun i W => ∃ k : Nat, i = .int .i64 k ∧ k ≤ n ∧ (∀ j, j < k → b j = false) ∧ I k W ∧ w.grownBy W row) (fun i _ => n - (intOf i).toNat)
  case atStart => exact ⟨0, rfl, Nat.zero_le _, fun j hj => absurd hj (Nat.not_lt_zero _), h0, grown_refl _ _⟩
  case round =>
    obtain ⟨k, rfl, hk, hall, hi, hg⟩ := hrel
    have HA := Lib.hid hall
    have HG := Lib.hid hg
    have HI := Lib.hid hi
    clear hall hg hi
    by_cases h : k < n
    · obtain ⟨ad, rfl, A2, c2, hrd, q0, q1, q2, q3, q4, q5⟩ := (HR.out _ _ HI.out).step (k := k) (by omega)
      have HC1 := Lib.hid (HC.out k _ A2 c2 h HI.out hrd)
      generalize l.getD k default = e at *
      go_wp2_with fail
      refine HC1.out.mono ?_
      rintro e1 w1 ⟨rfl, hi1, hg1⟩
      have HI1 := Lib.hid hi1
      have HG1 := Lib.hid (World.grownBy.trans HG.out hg1)
      clear hi1 hg1
      cases hb : b k
      · go_wp2
        go_roundw
        case rel =>
          refine ⟨k + 1, by go_num, by omega, fun j hj => ?_, HI1.out, HG1.out⟩
          by_cases e : j = k
          · rw [e]; exact hb
          · exact HA.out j (by omega)
        case measure =>
          simp [intOf]
          omega
      · go_wp2
        go_ret
        exact ⟨_, rfl, .inr ⟨k, rfl, h, hb, HA.out⟩, ⟨_, HI1.out⟩, HG1.out⟩
    · go_wp2
      go_ret
      exact ⟨_, rfl, .inl ⟨rfl, fun j hj => HA.out j (by omega)⟩, ⟨_, HI.out⟩, HG.out⟩
set_option maxHeartbeats 4000000 in
theorem idxFind_any (g : Nat) (I : Nat → World → Prop) (b : Nat → Bool) (row : Option Nat) (A : Option Addr) (n c : Nat) (l : List En) (w : World) (hn : l.length = n) (hnb : n ≤ 1000000)
    (HR : ∀ k W, I k W → RdE W (.slice A n c) l)
    (H : ∀ k W, k < n → I k W → Calls Tryd.prog 45 #[enV (l.getD k default), .pointer (some ⟨g, 0, none⟩)] W (fun e W' => e = .returned (.bool (b k)) ∧ I (k + 1) W' ∧ W.grownBy W' row))
    (h0 : I 0 w) :
    Calls Tryd.prog 41 #[.slice A n c, .func (.func 45) #[] #[.pointer (some ⟨g, 0, none⟩)]] w
      (fun e w' => ∃ i : Int, e = .returned (.int .i64 i) ∧ firstAt b n i ∧ (∃ k, I k w') ∧ w.grownBy w' row) := by
  have HR := Lib.hid HR
  have HC := Lib.hid H
  clear H
  go_enter Tryd.func41, Tryd.ntmps41
  go_wp2
  go_loopw [8] (fun i W => ∃ k : Nat, i = .int .i64 k ∧ k ≤ n ∧ (∀ j, j < k → b j = false) ∧ I k W ∧ w.grownBy W row) (fun i _ => n - (intOf i).toNat)
  case atStart => exact ⟨0, rfl, Nat.zero_le _, fun j hj => absurd hj (Nat.not_lt_zero _), h0, grown_refl _ _⟩
  case round =>
    obtain ⟨k, rfl, hk, hall, hi, hg⟩ := hrel
    have HA := Lib.hid hall
    have HG := Lib.hid hg
    have HI := Lib.hid hi
    clear hall hg hi
    by_cases h : k < n
    · obtain ⟨ad, rfl, q0, q1, q2, q3, q4, q5, q6⟩ := (HR.out _ _ HI.out).step (k := k) (by omega)
      have HC1 := Lib.hid (HC.out k _ h HI.out)
      generalize l.getD k default = e at *
      go_wp2_with fail
      refine HC1.out.mono ?_
      rintro e1 w1 ⟨rfl, hi1, hg1⟩
      have HI1 := Lib.hid hi1
      have HG1 := Lib.hid (World.grownBy.trans HG.out hg1)
      clear hi1 hg1
      cases hb : b k
      · go_wp2
        go_roundw
        case rel =>
          refine ⟨k + 1, by go_num, by omega, fun j hj => ?_, HI1.out, HG1.out⟩
          by_cases e : j = k
          · rw [e]; exact hb
          · exact HA.out j (by omega)
        case measure =>
          simp [intOf]
          omega
      · go_wp2
        go_ret
        exact ⟨_, rfl, .inr ⟨k, rfl, h, hb, HA.out⟩, ⟨_, HI1.out⟩, HG1.out⟩
    · go_wp2
      go_ret
      exact ⟨_, rfl, .inl ⟨rfl, fun j hj => HA.out j (by omega)⟩, ⟨_, HI.out⟩, HG.out⟩
set_option maxHeartbeats 4000000 in
theorem idxWithin_any (g : Nat) (I : Nat → World → Prop) (b : Nat → Bool) (row : Option Nat) (A : Option Addr) (n c : Nat) (l : List En) (w : World) (hn : l.length = n) (hnb : n ≤ 1000000)
    (HR : ∀ k W, I k W → RdE W (.slice A n c) l)
    (H : ∀ k W, k < n → I k W → Calls Tryd.prog 42 #[enV (l.getD k default), .pointer (some ⟨g, 0, none⟩)] W (fun e W' => e = .returned (.bool (b k)) ∧ I (k + 1) W' ∧ W.grownBy W' row))
    (h0 : I 0 w) :
    Calls Tryd.prog 41 #[.slice A n c, .func (.func 42) #[] #[.pointer (some ⟨g, 0, none⟩)]] w
      (fun e w' => ∃ i : Int, e = .returned (.int .i64 i) ∧ firstAt b n i ∧ (∃ k, I k w') ∧ w.grownBy w' row) := by
  have HR := Lib.hid HR
  have HC := Lib.hid H
  clear H
  go_enter Tryd.func41, Tryd.ntmps41
  go_wp2
  go_loopw [8] (fun i W => ∃ k : Nat, i = .int .i64 k ∧ k ≤ n ∧ (∀ j, j < k → b j = false) ∧ I k W ∧ w.grownBy W row) (fun i _ => n - (intOf i).toNat)
  case atStart => exact ⟨0, rfl, Nat.zero_le _, fun j hj => absurd hj (Nat.not_lt_zero _), h0, grown_refl _ _⟩
  case round =>
    obtain ⟨k, rfl, hk, hall, hi, hg⟩ := hrel
    have HA := Lib.hid hall
    have HG := Lib.hid hg
    have HI := Lib.hid hi
    clear hall hg hi
    by_cases h : k < n
    · obtain ⟨ad, rfl, q0, q1, q2, q3, q4, q5, q6⟩ := (HR.out _ _ HI.out).step (k := k) (by omega)
      have HC1 := Lib.hid (HC.out k _ h HI.out)
      generalize l.getD k default = e at *
      go_wp2_with fail
      refine HC1.out.mono ?_
      rintro e1 w1 ⟨rfl, hi1, hg1⟩
      have HI1 := Lib.hid hi1
      have HG1 := Lib.hid (World.grownBy.trans HG.out hg1)
      clear hi1 hg1
      cases hb : b k
      · go_wp2
        go_roundw
        case rel =>
          refine ⟨k + 1, by go_num, by omega, fun j hj => ?_, HI1.out, HG1.out⟩
          by_cases e : j = k
          · rw [e]; exact hb
          · exact HA.out j (by omega)
        case measure =>
          simp [intOf]
          omega
      · go_wp2
        go_ret
        exact ⟨_, rfl, .inr ⟨k, rfl, h, hb, HA.out⟩, ⟨_, HI1.out⟩, HG1.out⟩
    · go_wp2
      go_ret
      exact ⟨_, rfl, .inl ⟨rfl, fun j hj => HA.out j (by omega)⟩, ⟨_, HI.out⟩, HG.out⟩
set_option maxHeartbeats 4000000 in
theorem allFollows_any (gx : Nat) (I : Nat → World → Prop) (b : Nat → Bool) (row : Option Nat) (A : Option Addr) (n c : Nat) (l : List En) (w : World) (hn : l.length = n) (hnb : n ≤ 1000000)
    (hrow : ∀ r, row = some r → r < w.heap.size)
    (HR : ∀ k W, I k W → RdE W (.slice A n c) l)
    (HS : ∀ k W W', I k W → W.grownBy W' none → I k W')
    (H : ∀ k W, k < n → I k W → Calls Tryd.prog 46 #[enV (l.getD k default), .pointer (some ⟨gx, 0, none⟩)] W (fun e W' => e = .returned (.bool (b k)) ∧ I (k + 1) W' ∧ W.grownBy W' row))
    (h0 : I 0 w) :
    Calls Tryd.prog 47 #[.slice A n c, .func (.func 46) #[] #[.pointer (some ⟨gx, 0, none⟩)]] w
      (fun e w' => ∃ r, e = .returned (.bool r) ∧ (r = true ↔ ∀ j, j < n → b j = true) ∧ w.grownBy w' row) := by
  -- the closure: not what holds
  have H1 : ∀ (g k : Nat) (W : World), row ≠ some g → k < n → (I k W ∧ Row W g 70 [.func (.func 46) #[] #[.pointer (some ⟨gx, 0, none⟩)]]) → Calls Tryd.prog 70 #[enV (l.getD k default), .pointer (some ⟨g, 0, none⟩)] W
      (fun e W' => e = .returned (.bool (!b k)) ∧ (I (k + 1) W' ∧ Row W' g 70 [.func (.func 46) #[] #[.pointer (some ⟨gx, 0, none⟩)]]) ∧ W.grownBy W' row) := by
    rintro g k W hgr hk ⟨hi, hrw⟩
    have HRW := Lib.hid (fun o => (hrw.alloc o).cell (j := 0) rfl)
    have HIS := Lib.hid (fun o => HS k W (W.alloc o) hi (grown_alloc (grown_refl _ _) _))
    have HRR := Lib.hid (fun o => hrw.alloc o)
    have HH := Lib.hid (fun W => H k W hk)
    have HGR := Lib.hid hgr
    clear hi hrw hgr
    generalize l.getD k default = e at *
    go_enter Tryd.func70, Tryd.ntmps70
    simp only [enV, enC] at *
    have hc := HRW.out (.cells (enC e).toArray 38)
    simp only [enC] at hc
    go_wp2_with fail
    refine (HH.out _ (HIS.out _)).mono ?_
    rintro e1 w1 ⟨rfl, hi1, hg1⟩
    have HI1 := Lib.hid hi1
    have HG1 := Lib.hid hg1
    clear hi1 hg1 hc
    go_wp2
    go_ret
    exact ⟨rfl, ⟨HI1.out, (HRR.out _).grown HG1.out (fun e => HGR.out e.symm)⟩, (grown_alloc (grown_refl _ row) _).trans HG1.out⟩
  have H2 : ∀ (g : Nat) (W : World), row ≠ some g → (I 0 W ∧ Row W g 70 [.func (.func 46) #[] #[.pointer (some ⟨gx, 0, none⟩)]]) → Calls Tryd.prog 69 #[.slice A n c, .func (.func 70) #[] #[.pointer (some ⟨g, 0, none⟩)]] W
      (fun e W' => ∃ r, e = .returned (.bool r) ∧ (r = false ↔ ∀ j, j < n → b j = true) ∧ W.grownBy W' row) := by
    intro g W hgr h
    have HX := Lib.hid (idxAll_any g (fun k W => I k W ∧ Row W g 70 [.func (.func 46) #[] #[.pointer (some ⟨gx, 0, none⟩)]]) (fun k => !b k) row A n c l W hn hnb (fun k W h => HR k W h.1) (fun k W => H1 g k W hgr) h)
    clear H1 H HR HS hgr h h0
    go_enter Tryd.func69, Tryd.ntmps69
    go_wp2_with fail
    refine HX.out.mono ?_
    rintro e1 w1 ⟨i, rfl, hf, _, hg⟩
    have HG := Lib.hid hg
    have HF := Lib.hid hf
    clear hg hf HX
    go_wp2
    go_ret
    exact ⟨_, rfl, by rw [first_not HF.out]; simp, HG.out⟩
  have HX := Lib.hid (H2 w.heap.size (w.alloc (.cells #[.func (.func 46) #[] #[.pointer (some ⟨gx, 0, none⟩)]] 70)) (fun e => absurd (hrow _ e) (Nat.lt_irrefl _)) ⟨HS _ _ _ h0 (grown_alloc (grown_refl _ _) _), Row.new _ _ _⟩)
  clear H1 H2 H HR HS h0
  go_enter Tryd.func47, Tryd.ntmps47
  go_wp2_with fail
  refine HX.out.mono ?_
  rintro e1 w1 ⟨r, rfl, hf, hg⟩
  have HG := Lib.hid hg
  have HF := Lib.hid hf
  clear hg hf HX
  go_wp2
  go_ret
  exact ⟨_, rfl, by rw [← HF.out]; cases r <;> simp, (grown_alloc (grown_refl _ row) _).trans HG.out⟩
set_option maxHeartbeats 4000000 in
theorem allNamed_any (I : Nat → World → Prop) (b : Nat → Bool) (row : Option Nat) (A : Option Addr) (n c : Nat) (l : List Fl) (w : World) (hn : l.length = n) (hnb : n ≤ 1000000)
    (hrow : ∀ r, row = some r → r < w.heap.size)
    (HR : ∀ k W, I k W → RdF W (.slice A n c) l)
    (HS : ∀ k W W', I k W → W.grownBy W' none → I k W')
    (H : ∀ k W (A2 : Option Addr) (c2 : Nat), k < n → I k W → Rd W (.slice A2 (l.getD k default).data.length c2) (bytesV (l.getD k default).data) → Calls Tryd.prog 33 #[flV (l.getD k default) (.slice A2 (l.getD k default).data.length c2)] W (fun e W' => e = .returned (.bool (b k)) ∧ I (k + 1) W' ∧ W.grownBy W' row))
    (h0 : I 0 w) :
    Calls Tryd.prog 35 #[.slice A n c, .func (.func 33) #[] #[]] w
      (fun e w' => ∃ r, e = .returned (.bool r) ∧ (r = true ↔ ∀ j, j < n → b j = true) ∧ w.grownBy w' row) := by
  -- the closure: not what holds
  have H1 : ∀ (g k : Nat) (W : World) (A2 : Option Addr) (c2 : Nat), row ≠ some g → k < n → (I k W ∧ Row W g 61 [.func (.func 33) #[] #[]]) → Rd W (.slice A2 (l.getD k default).data.length c2) (bytesV (l.getD k default).data) → Calls Tryd.prog 63 #[flV (l.getD k default) (.slice A2 (l.getD k default).data.length c2), .pointer (some ⟨g, 0, none⟩)] W
      (fun e W' => e = .returned (.bool (!b k)) ∧ (I (k + 1) W' ∧ Row W' g 61 [.func (.func 33) #[] #[]]) ∧ W.grownBy W' row) := by
    rintro g k W A2 c2 hgr hk ⟨hi, hrw⟩ hrd
    have HRW := Lib.hid (fun o => (hrw.alloc o).cell (j := 0) rfl)
    have HIS := Lib.hid (fun o => HS k W (W.alloc o) hi (grown_alloc (grown_refl _ _) _))
    have HRR := Lib.hid (fun o => hrw.alloc o)
    have HRD := Lib.hid (fun o => hrd.grown0 (grown_alloc (grown_refl W none) o))
    have HH := Lib.hid (fun W => H k W A2 c2 hk)
    have HGR := Lib.hid hgr
    clear hi hrw hgr hrd
    generalize l.getD k default = e at *
    go_enter Tryd.func63, Tryd.ntmps63
    simp only [flV, flC] at *
    have hc := HRW.out (.cells (flC e (.slice A2 e.data.length c2)).toArray 52)
    simp only [flC] at hc
    go_wp2_with fail
    refine (HH.out _ (HIS.out _) (HRD.out _)).mono ?_
    rintro e1 w1 ⟨rfl, hi1, hg1⟩
    have HI1 := Lib.hid hi1
    have HG1 := Lib.hid hg1
    clear hi1 hg1 hc
    go_wp2
    go_ret
    exact ⟨rfl, ⟨HI1.out, (HRR.out _).grown HG1.out (fun e => HGR.out e.symm)⟩, (grown_alloc (grown_refl _ row) _).trans HG1.out⟩
  have H2 : ∀ (g : Nat) (W : World), row ≠ some g → (I 0 W ∧ Row W g 61 [.func (.func 33) #[] #[]]) → Calls Tryd.prog 62 #[.slice A n c, .func (.func 63) #[] #[.pointer (some ⟨g, 0, none⟩)]] W
      (fun e W' => ∃ r, e = .returned (.bool r) ∧ (r = false ↔ ∀ j, j < n → b j = true) ∧ W.grownBy W' row) := by
    intro g W hgr h
    have HX := Lib.hid (idxAllF_any g (fun k W => I k W ∧ Row W g 61 [.func (.func 33) #[] #[]]) (fun k => !b k) row A n c l W hn hnb (fun k W h => HR k W h.1) (fun k W A2 c2 => H1 g k W A2 c2 hgr) h)
    clear H1 H HR HS hgr h h0
    go_enter Tryd.func62, Tryd.ntmps62
    go_wp2_with fail
    refine HX.out.mono ?_
    rintro e1 w1 ⟨i, rfl, hf, _, hg⟩
    have HG := Lib.hid hg
    have HF := Lib.hid hf
    clear hg hf HX
    go_wp2
    go_ret
    exact ⟨_, rfl, by rw [first_not HF.out]; simp, HG.out⟩
  have HX := Lib.hid (H2 w.heap.size (w.alloc (.cells #[.func (.func 33) #[] #[]] 61)) (fun e => absurd (hrow _ e) (Nat.lt_irrefl _)) ⟨HS _ _ _ h0 (grown_alloc (grown_refl _ _) _), Row.new _ _ _⟩)
  clear H1 H2 H HR HS h0
  go_enter Tryd.func35, Tryd.ntmps35
  go_wp2_with fail
  refine HX.out.mono ?_
  rintro e1 w1 ⟨r, rfl, hf, hg⟩
  have HG := Lib.hid hg
  have HF := Lib.hid hf
  clear hg hf HX
  go_wp2
  go_ret
  exact ⟨_, rfl, by rw [← HF.out]; cases r <;> simp, (grown_alloc (grown_refl _ row) _).trans HG.out⟩
set_option maxHeartbeats 4000000 in
theorem allFits_any (gx : Nat) (I : Nat → World → Prop) (b : Nat → Bool) (row : Option Nat) (A : Option Addr) (n c : Nat) (l : List Fl) (w : World) (hn : l.length = n) (hnb : n ≤ 1000000)
    (hrow : ∀ r, row = some r → r < w.heap.size)
    (HR : ∀ k W, I k W → RdF W (.slice A n c) l)
    (HS : ∀ k W W', I k W → W.grownBy W' none → I k W')
    (H : ∀ k W (A2 : Option Addr) (c2 : Nat), k < n → I k W → Rd W (.slice A2 (l.getD k default).data.length c2) (bytesV (l.getD k default).data) → Calls Tryd.prog 65 #[flV (l.getD k default) (.slice A2 (l.getD k default).data.length c2), .pointer (some ⟨gx, 0, none⟩)] W (fun e W' => e = .returned (.bool (b k)) ∧ I (k + 1) W' ∧ W.grownBy W' row))
    (h0 : I 0 w) :
    Calls Tryd.prog 35 #[.slice A n c, .func (.func 65) #[] #[.pointer (some ⟨gx, 0, none⟩)]] w
      (fun e w' => ∃ r, e = .returned (.bool r) ∧ (r = true ↔ ∀ j, j < n → b j = true) ∧ w.grownBy w' row) := by
  -- the closure: not what holds
  have H1 : ∀ (g k : Nat) (W : World) (A2 : Option Addr) (c2 : Nat), row ≠ some g → k < n → (I k W ∧ Row W g 61 [.func (.func 65) #[] #[.pointer (some ⟨gx, 0, none⟩)]]) → Rd W (.slice A2 (l.getD k default).data.length c2) (bytesV (l.getD k default).data) → Calls Tryd.prog 63 #[flV (l.getD k default) (.slice A2 (l.getD k default).data.length c2), .pointer (some ⟨g, 0, none⟩)] W
      (fun e W' => e = .returned (.bool (!b k)) ∧ (I (k + 1) W' ∧ Row W' g 61 [.func (.func 65) #[] #[.pointer (some ⟨gx, 0, none⟩)]]) ∧ W.grownBy W' row) := by
    rintro g k W A2 c2 hgr hk ⟨hi, hrw⟩ hrd
    have HRW := Lib.hid (fun o => (hrw.alloc o).cell (j := 0) rfl)
    have HIS := Lib.hid (fun o => HS k W (W.alloc o) hi (grown_alloc (grown_refl _ _) _))
    have HRR := Lib.hid (fun o => hrw.alloc o)
    have HRD := Lib.hid (fun o => hrd.grown0 (grown_alloc (grown_refl W none) o))
    have HH := Lib.hid (fun W => H k W A2 c2 hk)
    have HGR := Lib.hid hgr
    clear hi hrw hgr hrd
    generalize l.getD k default = e at *
    go_enter Tryd.func63, Tryd.ntmps63
    simp only [flV, flC] at *
    have hc := HRW.out (.cells (flC e (.slice A2 e.data.length c2)).toArray 52)
    simp only [flC] at hc
    go_wp2_with fail
    refine (HH.out _ (HIS.out _) (HRD.out _)).mono ?_
    rintro e1 w1 ⟨rfl, hi1, hg1⟩
    have HI1 := Lib.hid hi1
    have HG1 := Lib.hid hg1
    clear hi1 hg1 hc
    go_wp2
    go_ret
    exact ⟨rfl, ⟨HI1.out, (HRR.out _).grown HG1.out (fun e => HGR.out e.symm)⟩, (grown_alloc (grown_refl _ row) _).trans HG1.out⟩
  have H2 : ∀ (g : Nat) (W : World), row ≠ some g → (I 0 W ∧ Row W g 61 [.func (.func 65) #[] #[.pointer (some ⟨gx, 0, none⟩)]]) → Calls Tryd.prog 62 #[.slice A n c, .func (.func 63) #[] #[.pointer (some ⟨g, 0, none⟩)]] W
      (fun e W' => ∃ r, e = .returned (.bool r) ∧ (r = false ↔ ∀ j, j < n → b j = true) ∧ W.grownBy W' row) := by
    intro g W hgr h
    have HX := Lib.hid (idxAllF_any g (fun k W => I k W ∧ Row W g 61 [.func (.func 65) #[] #[.pointer (some ⟨gx, 0, none⟩)]]) (fun k => !b k) row A n c l W hn hnb (fun k W h => HR k W h.1) (fun k W A2 c2 => H1 g k W A2 c2 hgr) h)
    clear H1 H HR HS hgr h h0
    go_enter Tryd.func62, Tryd.ntmps62
    go_wp2_with fail
    refine HX.out.mono ?_
    rintro e1 w1 ⟨i, rfl, hf, _, hg⟩
    have HG := Lib.hid hg
    have HF := Lib.hid hf
    clear hg hf HX
    go_wp2
    go_ret
    exact ⟨_, rfl, by rw [first_not HF.out]; simp, HG.out⟩
  have HX := Lib.hid (H2 w.heap.size (w.alloc (.cells #[.func (.func 65) #[] #[.pointer (some ⟨gx, 0, none⟩)]] 61)) (fun e => absurd (hrow _ e) (Nat.lt_irrefl _)) ⟨HS _ _ _ h0 (grown_alloc (grown_refl _ _) _), Row.new _ _ _⟩)
  clear H1 H2 H HR HS h0
  go_enter Tryd.func35, Tryd.ntmps35
  go_wp2_with fail
  refine HX.out.mono ?_
  rintro e1 w1 ⟨r, rfl, hf, hg⟩
  have HG := Lib.hid hg
  have HF := Lib.hid hf
  clear hg hf HX
  go_wp2
  go_ret
  exact ⟨_, rfl, by rw [← HF.out]; cases r <;> simp, (grown_alloc (grown_refl _ row) _).trans HG.out⟩
end Go.Proofs.YtiakkfcjdmecdaaDoor

/-
  entry.paths, and the function that entry.Fine asks whether entries follow each other, over this program.
-/
namespace Go.Proofs.YtiakkfcjdmecdaaDoor
set_option maxRecDepth 1000000
open Go.RowKit

def pathsE (l : List En) : List (List UInt8) := l.map (·.path)
theorem pathsE_next (l : List En) (k : Nat) (h : k < l.length) : pathsE (l.take (k + 1)) = pathsE (l.take k) ++ [(l.getD k default).path] := by
  rw [takeE l k h, pathsE, List.map_append]; rfl
/-- What paths answers. -/
def PathsOut (w : World) (l : List En) (e : Ending) (w' : World) : Prop := ∃ u, e = .returned u ∧ Rd w' u (strsV (pathsE l)) ∧ w.grownBy w' none
set_option maxHeartbeats 4000000 in
theorem paths_any (l : List En) (v : Value) (w : World) (hv : RdE w v l) (hl : l.length ≤ 100000) :
    Calls Tryd.prog 37 #[v] w (PathsOut w l) := by
  obtain ⟨A, c, rfl⟩ := hv.form
  have HV := Lib.hid hv
  have HL := Lib.hid hl
  clear hv hl
  obtain ⟨n, hn⟩ : ∃ n, l.length = n := ⟨_, rfl⟩
  have HN := Lib.hid hn
  rw [hn] at HL HV ⊢
  clear hn
  go_enter Tryd.func37, Tryd.ntmps37
  go_wp2
  go_loopw [8, 3] (fun i s W => ∃ k : Nat, k ≤ n ∧ i = .int .i64 k ∧ W.ownsRow w.heap.size 9 1 s k (strsV (pathsE (l.take k))) ∧ w.grownBy W none) (fun i _ _ => n - (intOf i).toNat)
  case atStart => exact ⟨0, Nat.zero_le _, rfl, World.ownsRow_nil _ _ _ _, grown_refl _ _⟩
  case round =>
    obtain ⟨k, hk, rfl, ho, hg⟩ := hrel
    by_cases hlt : k < n
    · have hkl : k < l.length := by rw [HN.out]; exact hlt
      have hnn := HL.out
      obtain ⟨ad, rfl, c0, c1, c2, c3, c4, c5, c6⟩ := (HV.out.grown0 hg).step hkl
      have HO := Lib.hid ho
      have HG := Lib.hid hg
      have HNX := Lib.hid (pathsE_next l k hkl)
      generalize l.getD k default = t at *
      clear ho hg
      go_wp2_with (at_builtin; refine wpList_append_strs _ rfl _ _ rfl w.heap.size _ k _ rfl ((HO.out.alloc _).alloc _) _ [t.path] rfl ?_ ?_ ?_ ?_)
      · have h7 := Rd.one (wr.alloc (.cells (enC t).toArray 38)) (.string (bts t.path)) 9
        rw [show (wr.alloc (.cells (enC t).toArray 38)).heap.size = wr.heap.size + 1 by simp] at h7
        exact h7
      · simp; omega
      · have := HG.out.size; simp; omega
      · intro v7 w7 ho7 hg7 hat7
        have HO7 := Lib.hid ho7
        have HG7 := Lib.hid hg7
        clear ho7 hg7 hat7 c0 c1 c2
        go_wp2
        go_roundw
        case rel =>
          refine ⟨k + 1, by omega, rfl, ?_, ?_⟩
          · rw [HNX.out, strsV_app]; exact HO7.out
          · exact grown_new (grown_alloc (grown_alloc HG.out _) _) HG7.out (fun r e => (HO.out.lt r e).1)
        case measure => simp only [intOf]; omega
    · have hkn : k = n := by omega
      subst hkn
      have hw : l.take k = l := by rw [← HN.out, List.take_length]
      go_wp2
      go_ret
      exact ⟨_, rfl, by rw [← hw]; exact Rd.of_own ho, hg⟩

/-- What Fine$1 asks of entry k. -/
def followB (l : List En) (k : Nat) : Bool := ((l.getD k default).beg == sizesE (l.take k)) && decide (sizesE (l.take k) + (l.getD k default).size ≤ 4194304)
set_option maxHeartbeats 4000000 in
theorem follow_any (e : En) (g : Nat) (s : Int) (W : World) (hr : Row W g 3 [.int .i64 s]) (hs : 0 ≤ s ∧ s ≤ 1099511627776) (hz : 0 ≤ e.size ∧ e.size ≤ 1048576) :
    Calls Tryd.prog 46 #[enV e, .pointer (some ⟨g, 0, none⟩)] W
      (fun e' W' => e' = .returned (.bool ((e.beg == s) && decide (s + e.size ≤ 4194304))) ∧ Row W' g 3 [.int .i64 (s + e.size)] ∧ W.grownBy W' (some g)) := by
  have hc := fun o => (hr.alloc o).cell (j := 0) rfl
  have hf := fun o => (hr.alloc o).frozen 0
  have hr2 : Row (W.setCell ⟨g, 0, none⟩ (.int .i64 (s + e.size))) g 3 [.int .i64 (s + e.size)] := hr.set 0 _
  have hc2 := fun o => (hr2.alloc o).cell (j := 0) rfl
  have HR := Lib.hid (fun o => hr2.alloc o)
  have hb := hr.lt
  have HG := Lib.hid (fun o => grown_alloc (grown_set W g 0 (.int .i64 (s + e.size))) o)
  clear hr hr2
  have w1 : wrap64 (s + e.size) = s + e.size := by unfold wrap64; omega
  by_cases h : e.beg = s
  · have q1 : (e.beg == s) = true := beq_iff_eq.2 h
    by_cases h4 : s + e.size ≤ 4194304
    · go_enter Tryd.func46, Tryd.ntmps46
      simp only [enV, enC]
      go_wp2
      go_ret
      exact ⟨by simp [q1, h4], HR.out _, HG.out _⟩
    · go_enter Tryd.func46, Tryd.ntmps46
      simp only [enV, enC]
      go_wp2
      go_ret
      exact ⟨by simp [q1, h4], HR.out _, HG.out _⟩
  · have q1 : (e.beg == s) = false := beq_eq_false_iff_ne.2 h
    go_enter Tryd.func46, Tryd.ntmps46
    simp only [enV, enC]
    go_wp2
    go_ret
    exact ⟨by simp [q1], HR.out _, HG.out _⟩
end Go.Proofs.YtiakkfcjdmecdaaDoor

/-
  When entries may be, told as the program asks it (of no program).
-/
namespace Go.Proofs.YtiakkfcjdmecdaaDoor
set_option maxRecDepth 1000000
open Go.RowKit

theorem mem_at {l : List En} {p : En → Prop} (h : ∀ j, j < l.length → p (l.getD j default)) : ∀ e ∈ l, p e := by
  intro e he
  obtain ⟨j, hj, rfl⟩ := List.getElem_of_mem he
  have := h j hj
  rwa [show l.getD j default = l[j] by simp [List.getElem?_eq_getElem hj]] at this
theorem pathsE_at (l : List En) (j : Nat) (hj : j < l.length) : (pathsE l).getD j [] = (l.getD j default).path := by
  simp [pathsE, List.getElem?_eq_getElem hj]
theorem sorted_is (l : List En) : sortedB (pathsE l) = true ↔ (∀ e ∈ l, rightB e.path = true) ∧ ascTo l l.length = true := by
  have hlen : (pathsE l).length = l.length := by simp [pathsE]
  rw [sortedB, hlen, sortedTo, ascTo, List.all_eq_true, List.all_eq_true]
  have hst : ∀ j, j < l.length → stepOk (pathsE l) j = (rightB (l.getD j default).path && (j == 0 || decide (cmpP (l.getD (j - 1) default).path (l.getD j default).path < 0))) := fun j hj => by
    rw [stepOk, pathsE_at l j hj, pathsE_at l (j - 1) (by omega)]
  constructor
  · intro h
    refine ⟨mem_at fun j hj => ?_, fun j hj => ?_⟩
    · have := h j (List.mem_range.2 hj)
      rw [hst j hj, Bool.and_eq_true] at this
      exact this.1
    · have := h j hj
      rw [hst j (List.mem_range.1 hj), Bool.and_eq_true] at this
      exact this.2
  · rintro ⟨h1, h2⟩ j hj
    have hj' := List.mem_range.1 hj
    rw [hst j hj', Bool.and_eq_true]
    exact ⟨atE (p := fun e => rightB e.path = true) h1 hj', h2 j hj⟩
theorem sizes_mono (l : List En) (h : ∀ e ∈ l, 0 ≤ e.size) (k : Nat) : sizesE (l.take k) ≤ sizesE l := by
  have h1 := sizesE_app (l.take k) (l.drop k)
  rw [List.take_append_drop] at h1
  have h2 : ∀ m : List En, (∀ e ∈ m, 0 ≤ e.size) → 0 ≤ sizesE m := fun m hm => by
    induction m with
    | nil => simp [sizesE]
    | cons e m ih =>
      have := hm e (by simp)
      have := ih fun e he => hm e (by simp [he])
      rw [sizesE]; omega
  have h3 := h2 (l.drop k) fun e he => h e (List.mem_of_mem_drop he)
  omega
theorem fine_is (l : List En) : fineE l = true ↔ l.length ≤ 1024 ∧ sortedB (pathsE l) = true ∧ (∀ j, j < l.length → rightE (l.getD j default) = true) ∧ (∀ j, j < l.length → followB l j = true) := by
  rw [sorted_is]
  constructor
  · intro h
    obtain ⟨hg, hb⟩ := fine_good h
    refine ⟨hg.few, ⟨hg.right, hg.asc⟩, fun j hj => ?_, fun j hj => ?_⟩
    · rw [rightE_is, Bool.and_eq_true, decide_eq_true_eq]
      exact ⟨atE (p := fun e => okE e = true) hg.ok hj, (atE (p := fun e => 0 ≤ e.size ∧ e.size ≤ 1048576) hg.size hj).2⟩
    · rw [followB, Bool.and_eq_true, decide_eq_true_eq, ← sizesE_next l j hj]
      rw [begsTo, List.all_eq_true] at hb
      have := sizes_mono l (fun e he => (hg.size e he).1) (j + 1)
      have := hg.sum
      exact ⟨hb j (List.mem_range.2 hj), by omega⟩
  · rintro ⟨h1, ⟨h2, h3⟩, h4, h5⟩
    have hr : ∀ e ∈ l, okE e = true ∧ e.size ≤ 1048576 := mem_at fun j hj => by
      have := h4 j hj
      rwa [rightE_is, Bool.and_eq_true, decide_eq_true_eq] at this
    have h0 : ∀ e ∈ l, 0 ≤ e.size := fun e he => okE_size (hr e he).1
    have hs : sizesE l ≤ 4194304 := by
      by_cases hl : l.length = 0
      · rw [List.length_eq_zero_iff.1 hl]; simp [sizesE]
      · have := h5 (l.length - 1) (by omega)
        rw [followB, Bool.and_eq_true, decide_eq_true_eq, ← sizesE_next l _ (by omega), show l.length - 1 + 1 = l.length by omega, List.take_length] at this
        exact this.2
    have hw : whyE l = 0 := by
      unfold whyE
      rw [if_neg (by rw [Bool.not_eq_false, List.all_eq_true]; exact h2), if_neg (by rw [Bool.not_eq_false]; exact h3), if_neg (by omega),
        if_neg (by rw [Bool.not_eq_false, List.all_eq_true]; exact fun e he => decide_eq_true (hr e he).2), if_neg (by rw [sumE_sizes l h0]; omega),
        if_neg (by rw [Bool.not_eq_false, List.all_eq_true]; exact fun e he => (hr e he).1)]
    rw [fineE, hw, begsTo, Bool.and_eq_true, List.all_eq_true]
    refine ⟨rfl, fun j hj => ?_⟩
    have := h5 j (List.mem_range.1 hj)
    rw [followB, Bool.and_eq_true] at this
    exact this.1
end Go.Proofs.YtiakkfcjdmecdaaDoor

/-
  entry.Fine over this program.
-/
namespace Go.Proofs.YtiakkfcjdmecdaaDoor
set_option maxRecDepth 1000000
open Go.RowKit

theorem fine_no {l : List En} (h : ¬ (l.length ≤ 1024 ∧ sortedB (pathsE l) = true ∧ (∀ j, j < l.length → rightE (l.getD j default) = true) ∧ (∀ j, j < l.length → followB l j = true))) : fineE l = false := by
  cases hf : fineE l
  · rfl
  · exact absurd ((fine_is l).1 hf) h

set_option maxHeartbeats 8000000 in
theorem fine_any (v : Value) (m : Nat) (l : List En) (w : World) (hr : RdE w v l) (hm : Lens l m) (hmb : m < 1000000000) :
    Calls Tryd.prog 23 #[v] w (Val (.bool (fineE l)) w) := by
  obtain ⟨A, c, rfl⟩ := hr.form
  obtain ⟨n, hn⟩ : ∃ n, l.length = n := ⟨_, rfl⟩
  have HN := Lib.hid hn
  rw [hn] at hr ⊢
  have HFI := Lib.hid (fine_is l)
  have HNO := Lib.hid (fine_no (l := l))
  rw [hn] at HFI HNO
  obtain ⟨w0, hw0⟩ : ∃ w0, w.alloc (.cells #[.int .i64 0] 3) = w0 := ⟨_, rfl⟩
  have hg0 : w.grownBy w0 none := by rw [← hw0]; exact grown_alloc (grown_refl _ _) _
  by_cases h : n ≤ 1024
  · have HP := Lib.hid (paths_any l (.slice A n c) w0 (hr.grown0 hg0) (by omega))
    have HS := Lib.hid (fun u w1 (hu : Rd w1 u (strsV (pathsE l))) => sorted_any u (pathsE l) w1 hu (by simp [pathsE]; omega) (fun p hp => by
      obtain ⟨e, he, rfl⟩ := List.mem_map.1 hp
      have := (hm e he).1; omega))
    have HR := Lib.hid (fun W (hg : w.grownBy W none) => allRight_any (fun _ W => RdE W (.slice A n c) l) (fun k => rightE (l.getD k default)) none A n c l W hn (by omega) (fun r e => by cases e) (fun _ _ h => h) (fun _ _ _ h hg => h.grown0 hg)
      (fun k W' hk hi => (eright_any (l.getD k default) W').mono fun e W2 ⟨he, hg⟩ => ⟨he, hi.grown0 hg, hg⟩) (hr.grown0 hg))
    have HX : Hid (∀ W, w0.grownBy W none → (∀ j, j < n → rightE (l.getD j default) = true) → Calls Tryd.prog 47 #[.slice A n c, .func (.func 46) #[] #[.pointer (some ⟨w.heap.size, 0, none⟩)]] W
        (fun e w' => ∃ r, e = .returned (.bool r) ∧ (r = true ↔ ∀ j, j < n → followB l j = true) ∧ W.grownBy w' (some w.heap.size))) := by
      intro W hg hright
      have hsz : ∀ e ∈ l, 0 ≤ e.size ∧ e.size ≤ 1048576 := mem_at fun j hj => by
        have := hright j (by omega)
        rw [rightE_is, Bool.and_eq_true, decide_eq_true_eq] at this
        exact ⟨okE_size this.1, this.2⟩
      have hrow : Row w0 w.heap.size 3 [.int .i64 0] := by rw [← hw0]; exact Row.new _ _ _
      refine allFollows_any w.heap.size (fun k W => w.grownBy W none ∧ Row W w.heap.size 3 [.int .i64 (sizesE (l.take k))]) (followB l) (some w.heap.size) A n c l W hn (by omega) ?_ (fun k W h => hr.grown0 h.1) (fun k W W' h hg => ⟨h.1.trans hg, h.2.grown0 hg⟩) ?_ ⟨hg0.trans hg, hrow.grown0 hg⟩
      · intro r e
        injection e with e
        subst e
        exact (hrow.grown0 hg).lt
      · rintro k W1 hk ⟨h1, h2⟩
        have hb := sizes_bound l hsz k
        refine (follow_any (l.getD k default) w.heap.size (sizesE (l.take k)) W1 h2 ⟨hb.1, by omega⟩ (atE (p := fun e => 0 ≤ e.size ∧ e.size ≤ 1048576) hsz (by omega))).mono ?_
        rintro e W2 ⟨he, hrw, hg2⟩
        refine ⟨he, ⟨grown_new h1 hg2 (fun r e => by injection e with e; omega), ?_⟩, hg2⟩
        rw [sizesE_next l k (by omega)]
        exact hrw
    have HG0 := Lib.hid hg0
    clear hr hm hg0 hn
    subst hw0
    go_enter Tryd.func23, Tryd.ntmps23
    go_wp2_with fail
    refine HP.out.mono ?_
    rintro e1 w1 ⟨u, rfl, hu, hg1⟩
    have HS1 := Lib.hid (HS.out u w1 hu)
    have HG1 := Lib.hid hg1
    clear hu hg1 HP HS
    go_wp2_with fail
    refine HS1.out.mono ?_
    rintro e2 w2 ⟨rfl, hg2⟩
    have HG2 := Lib.hid (HG1.out.trans hg2)
    clear hg2 HS1 HG1
    cases hs : sortedB (pathsE l)
    · have HE := Lib.hid (HNO.out (fun h => by rw [hs] at h; cases h.2.1))
      clear hs
      go_wp2
      go_ret
      exact ⟨by rw [HE.out]; rfl, HG0.out.trans HG2.out⟩
    · have HR1 := Lib.hid (HR.out w2 (HG0.out.trans HG2.out))
      have HSO := Lib.hid hs
      clear hs HR
      go_wp2_with fail
      refine HR1.out.mono ?_
      rintro e3 w3 ⟨r, rfl, hri, hg3⟩
      have HG3 := Lib.hid (HG2.out.trans hg3)
      have HRI := Lib.hid hri
      clear hg3 hri HR1 HG2
      cases r
      · have HE := Lib.hid (HNO.out (fun h => by have := HRI.out.2 h.2.2.1; cases this))
        go_wp2
        go_ret
        exact ⟨by rw [HE.out]; rfl, HG0.out.trans HG3.out⟩
      · have HX1 := Lib.hid (HX.out w3 HG3.out (HRI.out.1 (by simp)))
        clear HX
        go_wp2_with fail
        refine HX1.out.mono ?_
        rintro e4 w4 ⟨q, rfl, hqi, hg4⟩
        have HE : Hid (fineE l = q) := by
          refine Lib.hid ?_
          cases hq : q
          · exact HNO.out (fun h => by have := hqi.2 h.2.2.2; rw [hq] at this; cases this)
          · exact HFI.out.2 ⟨h, HSO.out, HRI.out.1 (by simp), hqi.1 hq⟩
        have HG4 := Lib.hid (grown_new (HG0.out.trans HG3.out) hg4 (fun r e => by injection e with e; omega))
        clear hqi hg4 HX1 HG3
        go_wp2
        go_ret
        exact ⟨by rw [HE.out]; rfl, HG4.out⟩
  · have HE := Lib.hid (HNO.out (fun h' => h h'.1))
    clear hr hm
    subst hw0
    go_enter Tryd.func23, Tryd.ntmps23
    go_wp2
    go_ret
    exact ⟨by rw [HE.out]; rfl, hg0⟩
end Go.Proofs.YtiakkfcjdmecdaaDoor

/-
  entry.entriesOf over this program: the entries of any files.
-/
namespace Go.Proofs.YtiakkfcjdmecdaaDoor
set_option maxRecDepth 1000000
open Go.RowKit

set_option maxHeartbeats 4000000 in
theorem entries_any (l : List Fl) (v : Value) (w : World) (hv : RdF w v l) (hl : l.length ≤ 100000) (hd : ∀ f ∈ l, f.data.length ≤ 1000000) :
    Calls Tryd.prog 32 #[v] w (EntsOut w (toldF 0 l)) := by
  obtain ⟨A, c, rfl⟩ := hv.form
  have HV := Lib.hid hv
  have HL := Lib.hid hl
  have HD := Lib.hid hd
  clear hv hl hd
  obtain ⟨n, hn⟩ : ∃ n, l.length = n := ⟨_, rfl⟩
  have HN := Lib.hid hn
  rw [hn] at HL HV ⊢
  clear hn
  go_enter Tryd.func32, Tryd.ntmps32
  go_wp2
  go_loopw [3, 4, 10] (fun s b i W => ∃ k : Nat, k ≤ n ∧ i = .int .i64 k ∧ b = .int .i64 ((dataF (l.take k)).length : Int) ∧ W.ownsRow w.heap.size 38 7 s k (enCs (toldF 0 (l.take k))) ∧ w.grownBy W none) (fun _ _ i _ => n - (intOf i).toNat)
  case atStart => exact ⟨0, Nat.zero_le _, rfl, rfl, World.ownsRow_nil _ _ _ _, grown_refl _ _⟩
  case round =>
    obtain ⟨k, hk, rfl, rfl, ho, hg⟩ := hrel
    by_cases hlt : k < n
    · have hkl : k < l.length := by rw [HN.out]; exact hlt
      have hnn := HL.out
      obtain ⟨ad, rfl, A2, c2, hrd, c0, c1, c2', c3, c4, c5⟩ := (HV.out.grown0 hg).step hkl
      have HO := Lib.hid ho
      have HG := Lib.hid hg
      have HNX := Lib.hid (show enCs (toldF 0 (l.take (k + 1))) = enCs (toldF 0 (l.take k)) ++ enC (enF (l.getD k default) (dataF (l.take k)).length) by rw [toldF_next l k hkl, enCs_app]; simp [enCs])
      have HND := Lib.hid (show (dataF (l.take (k + 1))).length = (dataF (l.take k)).length + (l.getD k default).data.length by rw [dataF_next l k hkl, List.length_append])
      have hb1 : (dataF (l.take k)).length ≤ 100000000000 := by
        have h1 := dataF_bound 1000000 (l.take k) (fun f hf => HD.out f (List.mem_of_mem_take hf))
        have h2 : (l.take k).length ≤ 100000 := by rw [List.length_take]; omega
        have h3 : (l.take k).length * 1000000 ≤ 100000 * 1000000 := Nat.mul_le_mul_right _ h2
        omega
      have hb2 := HD.out (l.getD k default) (by simp [List.getElem?_eq_getElem hkl])
      clear hrd ho hg
      generalize l.getD k default = t at *
      generalize (dataF (l.take k)).length = b at *
      have HE := Lib.hid (fun w' => end_any (enF t b) w' ⟨by simp only [enF]; omega, by simp only [enF]; omega⟩)
      go_wp2_with (first
        | (refine wpList_buildEn rfl _ 38 25 (.inl ⟨rfl, rfl⟩) rfl (enF t b) rfl ?_)
        | (at_builtin; refine wpList_appEn rfl _ _ 38 25 (.inl ⟨rfl, rfl⟩) rfl w.heap.size u3 k (enCs (toldF 0 (l.take k))) rfl (own_grown7 (own_grown7 (own_grown7 HO.out (grown_alloc (grown_refl _ none) _)) (grown_alloc (grown_refl _ none) _)) (grown_alloc (grown_refl _ none) _)) _ (enF t b) rfl (Row.new _ _ (enC (enF t b))) (by omega) (by have := HG.out.size; simp; omega) ?_; intro g' c' w7 ho7 hg7 hat7; have HO7 := Lib.hid ho7; have HG7 := Lib.hid hg7; have hr7 := ((Row.newAt (wr.alloc (.cells (flC t (.slice A2 t.data.length c2)).toArray 52)) 38 (enC (enF t b)) (g := wr.heap.size + 1) (by simp)).alloc (.cells (enC (enF t b)).toArray 38)).grown hg7 (fun e => by have := (HO.out.lt _ e.symm).2; omega); have d0 := hr7.cell (j := 0) rfl; have d1 := hr7.cell (j := 1) rfl; have d2 := hr7.cell (j := 2) rfl; have d3 := hr7.cell (j := 3) rfl; have d4 := hr7.cell (j := 4) rfl; have d5 := hr7.cell (j := 5) rfl; have d6 := hr7.cell (j := 6) rfl; simp only [enF] at d0 d1 d2 d3 d4 d5 d6; clear ho7 hg7 hat7 hr7 c0 c1 c2' c3 c4 c5)
        | (refine (HE.out _).mono ?_; rintro e8 w8 ⟨rfl, hg8⟩; have HG8 := Lib.hid hg8; clear hg8 d0 d1 d2 d3 d4 d5 d6))
      go_roundw
      case rel =>
        refine ⟨k + 1, by omega, by go_num, by rw [HND.out]; go_num, ?_, ?_⟩
        · rw [HNX.out]; exact own_grown7 HO7.out HG8.out
        · exact (grown_new (grown_alloc (grown_alloc (grown_alloc HG.out _) _) _) HG7.out (fun r e => (HO.out.lt r e).1)).trans HG8.out
      case measure => simp only [intOf]; omega
    · have hkn : k = n := by omega
      subst hkn
      have hw : l.take k = l := by rw [← HN.out, List.take_length]
      rw [hw] at ho
      have HO := Lib.hid ho
      clear ho
      go_wp2
      go_ret
      exact ⟨_, rfl, RdE.of_own (by rw [toldF_len, HN.out]) HO.out, hg⟩
end Go.Proofs.YtiakkfcjdmecdaaDoor
