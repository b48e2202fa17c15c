/-
  Short (of portmanteaulaw13) over this program.
-/
import Derived.Test.YtiakkfcjdmecdaaDoorEnM
namespace Go.Proofs.YtiakkfcjdmecdaaDoor
set_option maxRecDepth 1000000
open Go.RowKit

def okS (e : En) : Bool := !(decide (300 < e.path.length) || decide (300 < e.to.length) || decide (1099511627776 < e.size) || decide (e.size < -1099511627776))
def shortB (l : List En) : Bool := decide (l.length ≤ 20) && l.all okS

set_option maxHeartbeats 8000000 in
theorem short_any (A : Option Addr) (n c : Nat) (l : List En) (w : World) (hr : RdE w (.slice A n c) l) :
    Calls Tryd.prog 18 #[.slice A n c] w (Val (.bool (shortB l)) w) := by
  have hln := hr.len.1
  have hbn := hr.len.2
  have hmx : n ≤ 9223372036854775807 := by have := hbn.2; simp only [maxLen] at this; omega
  subst hln
  have HR := Lib.hid hr
  clear hr hbn
  go_enter Tryd.func18, Tryd.ntmps18
  go_wp2
  go_loopw [3] (fun i W => ∃ k : Nat, i = .int .i64 k ∧ W = w ∧ k ≤ l.length ∧ k ≤ 21 ∧ (l.take k).all okS = true) (fun i _ => l.length - (intOf i).toNat)
  case atStart => exact ⟨0, rfl, rfl, Nat.zero_le _, by omega, by simp⟩
  case round =>
    obtain ⟨k, rfl, rfl, hk, hk21, hall⟩ := hrel
    have HA := Lib.hid hall
    clear hall
    by_cases h : k < l.length
    · have d0 : decide ((k : Int) < (l.length : Int)) = true := by simp; omega
      by_cases h20 : k ≤ 20
      · have d1 : decide ((k : Int) ≤ 20) = true := by simp; omega
        obtain ⟨ad, rfl, c0, c1, c2, c3, c4, c5, c6⟩ := HR.out.step h
        have HN := Lib.hid (allE_next l okS k h HA.out)
        have HO := Lib.hid (fun hf => (show shortB l = false by rw [shortB, allE_not l okS k h hf, Bool.and_false]))
        have HT := Lib.hid (show okS (l.getD k default) = !(decide (300 < (l.getD k default).path.length) || decide (300 < (l.getD k default).to.length) || decide (1099511627776 < (l.getD k default).size) || decide ((l.getD k default).size < -1099511627776)) from rfl)
        have z1 := bts_size (l.getD k default).path
        have z2 := bts_size (l.getD k default).to
        generalize l.getD k default = e at *
        clear c1 c2 c3 c5
        by_cases p1 : 300 < e.path.length
        · have e1 : decide ((300 : Int) < ((bts e.path).size : Int)) = true := decide_eq_true (by omega)
          have HE := Lib.hid (HO.out (by rw [HT.out, decide_eq_true p1]; rfl))
          clear z1 z2
          go_wp2
          go_ret
          exact ⟨by rw [HE.out]; rfl, grown_refl _ _⟩
        · have e1 : decide ((300 : Int) < ((bts e.path).size : Int)) = false := decide_eq_false (by omega)
          by_cases p2 : 300 < e.to.length
          · have e2 : decide ((300 : Int) < ((bts e.to).size : Int)) = true := decide_eq_true (by omega)
            have HE := Lib.hid (HO.out (by rw [HT.out, decide_eq_true p2]; simp))
            clear z1 z2
            go_wp2
            go_ret
            exact ⟨by rw [HE.out]; rfl, grown_refl _ _⟩
          · have e2 : decide ((300 : Int) < ((bts e.to).size : Int)) = false := decide_eq_false (by omega)
            clear z1 z2
            by_cases p3 : 1099511627776 < e.size
            · have e3 : decide (1099511627776 < e.size) = true := decide_eq_true p3
              have HE := Lib.hid (HO.out (by rw [HT.out, e3]; simp))
              go_wp2
              go_ret
              exact ⟨by rw [HE.out]; rfl, grown_refl _ _⟩
            · have e3 : decide (1099511627776 < e.size) = false := decide_eq_false p3
              by_cases p4 : e.size < -1099511627776
              · have e4 : decide (e.size < -1099511627776) = true := decide_eq_true p4
                have HE := Lib.hid (HO.out (by rw [HT.out, e4]; simp))
                go_wp2
                go_ret
                exact ⟨by rw [HE.out]; rfl, grown_refl _ _⟩
              · have e4 : decide (e.size < -1099511627776) = false := decide_eq_false p4
                have HE := Lib.hid (show okS e = true by rw [HT.out, decide_eq_false p1, decide_eq_false p2, e3, e4]; rfl)
                go_wp2
                go_roundw
                case rel => exact ⟨k + 1, by go_num, trivial, h, by omega, by rw [HN.out]; exact HE.out⟩
                case measure =>
                  simp [intOf]
                  omega
      · have d1 : decide ((k : Int) ≤ 20) = false := by simp; omega
        have d2 : decide ((l.length : Int) ≤ 20) = false := decide_eq_false (by omega)
        have HE := Lib.hid (show shortB l = false by rw [shortB, decide_eq_false (by omega)]; rfl)
        go_wp2
        go_ret
        exact ⟨by rw [HE.out]; rfl, grown_refl _ _⟩
    · have d0 : decide ((k : Int) < (l.length : Int)) = false := by simp; omega
      have hl := allE_end l okS k (by omega) HA.out
      by_cases h20 : l.length ≤ 20
      · have d2 : decide ((l.length : Int) ≤ 20) = true := decide_eq_true (by omega)
        have HE := Lib.hid (show shortB l = true by rw [shortB, hl, decide_eq_true h20]; rfl)
        go_wp2
        go_ret
        exact ⟨by rw [HE.out]; rfl, grown_refl _ _⟩
      · have d2 : decide ((l.length : Int) ≤ 20) = false := decide_eq_false (by omega)
        have HE := Lib.hid (show shortB l = false by rw [shortB, decide_eq_false h20]; rfl)
        go_wp2
        go_ret
        exact ⟨by rw [HE.out]; rfl, grown_refl _ _⟩
end Go.Proofs.YtiakkfcjdmecdaaDoor
