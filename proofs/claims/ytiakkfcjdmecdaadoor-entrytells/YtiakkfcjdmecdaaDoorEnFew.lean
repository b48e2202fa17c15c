/-
  Few (of portmanteaulaw13) over this program.
-/
import Derived.Test.YtiakkfcjdmecdaaDoorEnFl
namespace Go.Proofs.YtiakkfcjdmecdaaDoor
set_option maxRecDepth 1000000
open Go.RowKit

set_option maxHeartbeats 8000000 in
theorem few_any (A : Option Addr) (n c : Nat) (l : List Fl) (w : World) (hr : RdF w (.slice A n c) l) :
    Calls Tryd.prog 11 #[.slice A n c] w (Val (.bool (fewB l)) w) := by
  have hln := hr.len.1
  have hbn := hr.len.2
  have hmx : n ≤ 9223372036854775807 := by have := hbn.2; simp only [maxLen] at this; omega
  subst hln
  have HR := Lib.hid hr
  clear hr hbn
  go_enter Tryd.func11, Tryd.ntmps11
  go_wp2
  go_loopw [3] (fun i W => ∃ k : Nat, i = .int .i64 k ∧ W = w ∧ k ≤ l.length ∧ k ≤ 13 ∧ (l.take k).all okF = true) (fun i _ => l.length - (intOf i).toNat)
  case atStart => exact ⟨0, rfl, rfl, Nat.zero_le _, by omega, by simp⟩
  case round =>
    obtain ⟨k, rfl, rfl, hk, hk13, hall⟩ := hrel
    have HA := Lib.hid hall
    clear hall
    by_cases h : k < l.length
    · have d0 : decide ((k : Int) < (l.length : Int)) = true := by simp; omega
      by_cases h12 : k ≤ 12
      · have d1 : decide ((k : Int) ≤ 12) = true := by simp; omega
        obtain ⟨ad, rfl, A2, c2, hrd, c0, _, _, _, c4, c5⟩ := HR.out.step h
        have HN := Lib.hid (allF_next l okF k h HA.out)
        have HO := Lib.hid (fun hf => (show fewB l = false by rw [fewB, allF_not l okF k h hf, Bool.and_false]))
        have HT := Lib.hid (show okF (l.getD k default) = !(decide (300 < (l.getD k default).path.length) || decide (300 < (l.getD k default).to.length) || decide (200 < (l.getD k default).data.length)) from rfl)
        have z1 := bts_size (l.getD k default).path
        have z2 := bts_size (l.getD k default).to
        clear hrd
        generalize l.getD k default = e at *
        by_cases p1 : 300 < e.path.length
        · have e1 : decide ((300 : Int) < ((bts e.path).size : Int)) = true := decide_eq_true (by omega)
          have HE := Lib.hid (HO.out (by rw [HT.out, decide_eq_true p1]; rfl))
          clear z1 z2
          go_wp2
          go_ret
          exact ⟨by rw [HE.out]; rfl, grown_refl _ _⟩
        · have e1 : decide ((300 : Int) < ((bts e.path).size : Int)) = false := decide_eq_false (by omega)
          by_cases p2 : 300 < e.to.length
          · have e2 : decide ((300 : Int) < ((bts e.to).size : Int)) = true := decide_eq_true (by omega)
            have HE := Lib.hid (HO.out (by rw [HT.out, decide_eq_true p2]; simp))
            clear z1 z2
            go_wp2
            go_ret
            exact ⟨by rw [HE.out]; rfl, grown_refl _ _⟩
          · have e2 : decide ((300 : Int) < ((bts e.to).size : Int)) = false := decide_eq_false (by omega)
            clear z1 z2
            by_cases p3 : 200 < e.data.length
            · have e3 : decide ((200 : Int) < (e.data.length : Int)) = true := decide_eq_true (by omega)
              have HE := Lib.hid (HO.out (by rw [HT.out, decide_eq_true p3]; simp))
              go_wp2
              go_ret
              exact ⟨by rw [HE.out]; rfl, grown_refl _ _⟩
            · have e3 : decide ((200 : Int) < (e.data.length : Int)) = false := decide_eq_false (by omega)
              have HE := Lib.hid (show okF e = true by rw [HT.out, decide_eq_false p1, decide_eq_false p2, decide_eq_false p3]; rfl)
              go_wp2
              go_roundw
              case rel => exact ⟨k + 1, by go_num, trivial, h, by omega, by rw [HN.out]; exact HE.out⟩
              case measure =>
                simp [intOf]
                omega
      · have d1 : decide ((k : Int) ≤ 12) = false := by simp; omega
        have d2 : decide ((l.length : Int) ≤ 12) = false := decide_eq_false (by omega)
        have HE := Lib.hid (show fewB l = false by rw [fewB, decide_eq_false (by omega)]; rfl)
        go_wp2
        go_ret
        exact ⟨by rw [HE.out]; rfl, grown_refl _ _⟩
    · have d0 : decide ((k : Int) < (l.length : Int)) = false := by simp; omega
      have hl := allF_end l okF k (by omega) HA.out
      by_cases h12 : l.length ≤ 12
      · have d2 : decide ((l.length : Int) ≤ 12) = true := decide_eq_true (by omega)
        have HE := Lib.hid (show fewB l = true by rw [fewB, hl, decide_eq_true h12]; rfl)
        go_wp2
        go_ret
        exact ⟨by rw [HE.out]; rfl, grown_refl _ _⟩
      · have d2 : decide ((l.length : Int) ≤ 12) = false := decide_eq_false (by omega)
        have HE := Lib.hid (show fewB l = false by rw [fewB, decide_eq_false h12]; rfl)
        go_wp2
        go_ret
        exact ⟨by rw [HE.out]; rfl, grown_refl _ _⟩
end Go.Proofs.YtiakkfcjdmecdaaDoor
