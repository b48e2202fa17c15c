/-
  CoderBack's own function: which steps may be, over this program.
-/
import Derived.Test.YtlmdjkahbejcdaaCodAwake
import Derived.Test.YtlmdjkahbejcdaaCodSteps
namespace Go.Proofs.Ytlmdjkahbejcdaa
open Go.RowKit

/-- A step as a value. -/
def doV (d : Dos) : Value := .agg #[.int .i64 d.verb, .int .i64 d.k, .int .i64 d.n, .int .i64 d.bits]
/-- What the function answers. -/
def Says (b : Bool) (d : Dos) : Prop := b = true ↔ may0 d ∨ may1 d ∨ may2 d
def MayOut (d : Dos) (w : World) (e : Ending) (w' : World) : Prop := (∃ b : Bool, e = .returned (.bool b) ∧ Says b d) ∧ w.grownBy w' none
theorem yes0 {d : Dos} (h : may0 d) : Says true d := ⟨fun _ => .inl h, fun _ => rfl⟩
theorem yes1 {d : Dos} (h : may1 d) : Says true d := ⟨fun _ => .inr (.inl h), fun _ => rfl⟩
theorem yes2 {d : Dos} (h : may2 d) : Says true d := ⟨fun _ => .inr (.inr h), fun _ => rfl⟩
theorem no3 {d : Dos} (h0 : ¬ may0 d) (h1 : ¬ may1 d) (h2 : ¬ may2 d) : Says false d := ⟨(fun h => by cases h), (fun h => absurd h (by rintro (h | h | h); exact h0 h; exact h1 h; exact h2 h))⟩
set_option maxHeartbeats 8000000 in
theorem may_any (d : Dos) (w : World) : Calls Try.prog 23 #[doV d] w (MayOut d w) := by
  obtain ⟨v, k, n, b⟩ := d
  unfold doV
  simp only
  by_cases hv0 : v = 0
  · subst hv0
    have m1 : ¬ may1 ⟨0, k, n, b⟩ := fun h => by have := h.1; simp at this
    have m2 : ¬ may2 ⟨0, k, n, b⟩ := fun h => by have := h.1; simp at this
    by_cases h1 : 0 ≤ k
    · have d1 : decide (0 ≤ k) = true := by simpa using h1
      by_cases h2 : k < 8
      · have d2 : decide (k < 8) = true := by simpa using h2
        by_cases h3 : 0 ≤ n
        · have d3 : decide (0 ≤ n) = true := by simpa using h3
          by_cases h4 : n < 2
          · have d4 : decide (n < 2) = true := by simpa using h4
            have M := Lib.hid (yes0 (d := ⟨0, k, n, b⟩) ⟨rfl, h1, h2, h3, h4⟩)
            clear m1 m2 h1 h2 h3 h4
            go_enter Try.func23, Try.ntmps23
            go_wp2
            go_ret
            exact ⟨⟨true, rfl, M.out⟩, grown_alloc (grown_refl _ _) _⟩
          · have d4 : decide (n < 2) = false := by simpa using h4
            have M := Lib.hid (no3 (d := ⟨0, k, n, b⟩) (fun h => h4 h.2.2.2.2) m1 m2)
            clear m1 m2 h1 h2 h3 h4
            go_enter Try.func23, Try.ntmps23
            go_wp2
            go_ret
            exact ⟨⟨false, rfl, M.out⟩, grown_alloc (grown_refl _ _) _⟩
        · have d3 : decide (0 ≤ n) = false := by simpa using h3
          have M := Lib.hid (no3 (d := ⟨0, k, n, b⟩) (fun h => h3 h.2.2.2.1) m1 m2)
          clear m1 m2 h1 h2 h3
          go_enter Try.func23, Try.ntmps23
          go_wp2
          go_ret
          exact ⟨⟨false, rfl, M.out⟩, grown_alloc (grown_refl _ _) _⟩
      · have d2 : decide (k < 8) = false := by simpa using h2
        have M := Lib.hid (no3 (d := ⟨0, k, n, b⟩) (fun h => h2 h.2.2.1) m1 m2)
        clear m1 m2 h1 h2
        go_enter Try.func23, Try.ntmps23
        go_wp2
        go_ret
        exact ⟨⟨false, rfl, M.out⟩, grown_alloc (grown_refl _ _) _⟩
    · have d1 : decide (0 ≤ k) = false := by simpa using h1
      have M := Lib.hid (no3 (d := ⟨0, k, n, b⟩) (fun h => h1 h.2.1) m1 m2)
      clear m1 m2 h1
      go_enter Try.func23, Try.ntmps23
      go_wp2
      go_ret
      exact ⟨⟨false, rfl, M.out⟩, grown_alloc (grown_refl _ _) _⟩
  by_cases hv1 : v = 1
  · subst hv1
    have m0 : ¬ may0 ⟨1, k, n, b⟩ := fun h => by have := h.1; simp at this
    have m2 : ¬ may2 ⟨1, k, n, b⟩ := fun h => by have := h.1; simp at this
    clear hv0
    by_cases h1 : 0 ≤ b
    · have d1 : decide (0 ≤ b) = true := by simpa using h1
      by_cases h2 : b ≤ 32
      · have d2 : decide (b ≤ 32) = true := by simpa using h2
        have M := Lib.hid (yes1 (d := ⟨1, k, n, b⟩) ⟨rfl, h1, h2⟩)
        clear m0 m2 h1 h2
        go_enter Try.func23, Try.ntmps23
        go_wp2
        go_ret
        exact ⟨⟨true, rfl, M.out⟩, grown_alloc (grown_refl _ _) _⟩
      · have d2 : decide (b ≤ 32) = false := by simpa using h2
        have M := Lib.hid (show Says false ⟨1, k, n, b⟩ from no3 m0 (fun h => h2 h.2.2) m2)
        clear m0 m2 h1 h2
        go_enter Try.func23, Try.ntmps23
        go_wp2
        go_ret
        exact ⟨⟨false, rfl, M.out⟩, grown_alloc (grown_refl _ _) _⟩
    · have d1 : decide (0 ≤ b) = false := by simpa using h1
      have M := Lib.hid (show Says false ⟨1, k, n, b⟩ from no3 m0 (fun h => h1 h.2.1) m2)
      clear m0 m2 h1
      go_enter Try.func23, Try.ntmps23
      go_wp2
      go_ret
      exact ⟨⟨false, rfl, M.out⟩, grown_alloc (grown_refl _ _) _⟩
  by_cases hv2 : v = 2
  · subst hv2
    have m0 : ¬ may0 ⟨2, k, n, b⟩ := fun h => by have := h.1; simp at this
    have m1 : ¬ may1 ⟨2, k, n, b⟩ := fun h => by have := h.1; simp at this
    clear hv0 hv1
    by_cases h1 : 0 ≤ b
    · have d1 : decide (0 ≤ b) = true := by simpa using h1
      by_cases h2 : b ≤ 8
      · have d2 : decide (b ≤ 8) = true := by simpa using h2
        have M := Lib.hid (yes2 (d := ⟨2, k, n, b⟩) ⟨rfl, h1, h2⟩)
        clear m0 m1 h1 h2
        go_enter Try.func23, Try.ntmps23
        go_wp2
        go_ret
        exact ⟨⟨true, rfl, M.out⟩, grown_alloc (grown_refl _ _) _⟩
      · have d2 : decide (b ≤ 8) = false := by simpa using h2
        have M := Lib.hid (show Says false ⟨2, k, n, b⟩ from no3 m0 m1 (fun h => h2 h.2.2))
        clear m0 m1 h1 h2
        go_enter Try.func23, Try.ntmps23
        go_wp2
        go_ret
        exact ⟨⟨false, rfl, M.out⟩, grown_alloc (grown_refl _ _) _⟩
    · have d1 : decide (0 ≤ b) = false := by simpa using h1
      have M := Lib.hid (show Says false ⟨2, k, n, b⟩ from no3 m0 m1 (fun h => h1 h.2.1))
      clear m0 m1 h1
      go_enter Try.func23, Try.ntmps23
      go_wp2
      go_ret
      exact ⟨⟨false, rfl, M.out⟩, grown_alloc (grown_refl _ _) _⟩
  have e0 : (v == 0) = false := by simpa using hv0
  have e1 : (v == 1) = false := by simpa using hv1
  have e2 : (v == 2) = false := by simpa using hv2
  have M := Lib.hid (no3 (d := ⟨v, k, n, b⟩) (fun h => hv0 h.1) (fun h => hv1 h.1) (fun h => hv2 h.1))
  clear hv0 hv1 hv2
  go_enter Try.func23, Try.ntmps23
  go_wp2
  go_ret
  exact ⟨⟨false, rfl, M.out⟩, grown_alloc (grown_refl _ _) _⟩
end Go.Proofs.Ytlmdjkahbejcdaa
