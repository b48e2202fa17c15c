/-
  Tokens over this program: Right, size, and the document's Right.
-/
import Derived.Test.YtibofgokdjbomaaLz
import Derived.Test.YtibofgokdjbomaaMMem
import Derived.Test.YtibofgokdjbomaaChecked
namespace Go.Proofs.Ytibofgokdjbomaa
set_option maxRecDepth 1000000
open Go.RowKit

def tokC (t : Tok) : List Value := [.int .u8 (t.lit.toNat : Int), .int .i64 t.len, .int .i64 t.back]
def tokV (t : Tok) : Value := .agg #[.int .u8 (t.lit.toNat : Int), .int .i64 t.len, .int .i64 t.back]
/-- A token's numbers are such as an int has. -/
def Fits (t : Tok) : Prop := -9223372036854775808 ≤ t.len ∧ t.len ≤ 9223372036854775807 ∧ -9223372036854775808 ≤ t.back ∧ t.back ≤ 9223372036854775807

theorem rightWindow_any (n : Int) (w : World) : Calls Try.prog 66 #[.int .i64 n] w (Val (.bool (decide (1 ≤ n) && decide (n ≤ 32768))) w) := by
  go_enter Try.func66, Try.ntmps66
  by_cases h : 1 ≤ n
  · have hd : decide (1 ≤ n) = true := by simpa using h
    go_wp2
    go_ret
    exact ⟨by simp [hd], grown_refl _ _⟩
  · have hd : decide (1 ≤ n) = false := by simpa using h
    go_wp2
    go_ret
    exact ⟨by simp, grown_refl _ _⟩

theorem lit_eq (c : UInt8) : ((c.toNat : Int) == 0) = decide (c = 0) := by
  rw [Bool.eq_iff_iff, beq_iff_eq, decide_eq_true_iff]
  constructor
  · intro h
    apply UInt8.toNat_inj.1
    simpa using h
  · rintro rfl; rfl

set_option maxHeartbeats 1000000 in
theorem right_any (t : Tok) (w : World) : Calls Try.prog 43 #[tokV t] w (Val (.bool (right t)) w) := by
  obtain ⟨c, n, b⟩ := t
  unfold tokV right
  simp only
  have hc := lit_eq c
  by_cases h0 : n = 0
  · subst h0
    have hb : (b == 0) = decide (b = 0) := by rw [Bool.eq_iff_iff, beq_iff_eq, decide_eq_true_iff]
    go_enter Try.func43, Try.ntmps43
    go_wp2
    go_ret
    exact ⟨by simp, grown_alloc (grown_refl _ _) _⟩
  · have h0' : (n == 0) = false := by simpa using h0
    rw [if_neg h0]
    cases hcd : decide (c = 0) with
    | false =>
      rw [hcd] at hc
      go_enter Try.func43, Try.ntmps43
      go_wp2
      go_ret
      exact ⟨by simp, grown_alloc (grown_refl _ _) _⟩
    | true =>
      rw [hcd] at hc
      cases h1 : decide (3 ≤ n) with
      | false =>
        go_enter Try.func43, Try.ntmps43
        go_wp2
        go_ret
        exact ⟨by simp, grown_alloc (grown_refl _ _) _⟩
      | true =>
        cases h2 : decide (n ≤ 258) with
        | false =>
          go_enter Try.func43, Try.ntmps43
          go_wp2
          go_ret
          exact ⟨by simp, grown_alloc (grown_refl _ _) _⟩
        | true =>
          have HR := Lib.hid (rightWindow_any b)
          go_enter Try.func43, Try.ntmps43
          go_wp2_with fail
          refine (HR.out _).mono ?_
          rintro e w1 ⟨rfl, hg1⟩
          go_wp2
          go_ret
          exact ⟨by simp, (grown_alloc (grown_refl _ _) _).trans hg1⟩

theorem size_any (t : Tok) (w : World) : Calls Try.prog 46 #[tokV t] w (Val (.int .i64 (tsize t)) w) := by
  obtain ⟨c, n, b⟩ := t
  unfold tokV tsize
  simp only
  go_enter Try.func46, Try.ntmps46
  go_wp2
  all_goals
    go_ret
    exact ⟨by first | (rw [show max 1 n = n by omega]; rfl) | (rw [show max 1 n = 1 by omega]; rfl), grown_alloc (grown_refl _ _) _⟩

end Go.Proofs.Ytibofgokdjbomaa
