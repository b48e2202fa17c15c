/-
  Operations of a region that draws which are not wanted (of no program).
-/
import Derived.Test.YtiakkfcjdmecdaaDoorMMem
namespace Go.Proofs.YtiakkfcjdmecdaaDoor
set_option maxRecDepth 1000000
open Go.RowKit

section
variable {P : Program} {ops : Array Oper} {Q : Exit → Act → World → Prop} {n : Nat} {eff : List (Nat × Nat)} {w0 : World} {a0 : Act} {tail : List Oper}
/-- An operation that is not wanted. -/
theorem Walk.skip {env : List (Value → World → Prop)} {k : Nat} {o : Oper} {rest : List Oper} (ho : ops[k]? = some o)
    (hs : ∀ a w, Mid2 ops n eff w0 a0 a w → Deps2 ops env.reverse o a w → Region.wanted o (yielded ops a.tmps) = false)
    (hc : Walk P ops Q n eff w0 a0 tail (k + 1) rest (Is undef :: env)) : Walk P ops Q n eff w0 a0 tail k (o :: rest) env := by
  refine ⟨Is undef, stays_is _ _, fun a w hm _ hd => ?_, hc⟩
  have hw := hs a w hm hd
  unfold wpOp
  rw [ho]
  simp only
  rw [if_neg (by rw [hw]; simp)]
  exact ⟨undef, rfl, grown_refl _ _, rfl, fun _ => rfl⟩
theorem unwanted_at {o : Oper} {a : Act} {g : Nat} {b : Bool} {d : Tmp} {w : World} {u : Value} (h : o.guard = some (g, b)) (hd : (ops[g]?).bind (fun o => o.dst) = some d) (hv : Is u (a.eval (.tmp d)) w) (hu : u ≠ .bool b) : Region.wanted o (yielded ops a.tmps) = false := by
  have h1 : a.tmps.getD d undef = u := hv
  rw [Array.getD_eq_getD_getElem?] at h1
  simp only [Region.wanted, h, yielded, hd]
  cases hx : a.tmps[d]? with
  | none => simp [hx]
  | some y =>
    rw [hx] at h1
    simp only [Option.getD_some] at h1
    subst h1
    simp [hx]
    cases y <;> simp_all
end
end Go.Proofs.YtiakkfcjdmecdaaDoor
