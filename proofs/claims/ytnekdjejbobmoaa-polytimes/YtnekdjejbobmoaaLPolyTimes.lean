/-
  Proved: for every two numbers of 16 bytes PolyTimes returns true and leaves its arguments as they were. Conditions: none beyond the row's own.
-/
import Derived.Test.YtnekdjejbobmoaaPolTimesLaw
import Derived.Test.YtnekdjejbobmoaaLift
import Derived.Test.YtnekdjejbobmoaaLiftPol
namespace Go.Proofs.Ytnekdjejbobmoaa
open Go.ChangeShapes Go.WideShapes Go.ChangeAt Go.RowKit

theorem polyTimes_lifted (os : Os) (started : os.Started) (H : Type) (enc : TypeId × Value → H) :
    ReturnsInHanded {} Try.checked os 4 .any (Rows.polyTimesSpec.pre6 enc Try.prog Try.f4 Rows.polyTimesRow.domain false) (Rows.polyTimesSpec.post enc Try.prog Try.f4 false true false false) := by
  refine returnsInHanded_of_change (C := Try.checked) ownKnobNone started (by kernel_rfl) Try.func4
    (ChangeSpec.witness6 (enc := enc) (C := Try.checked) false ⟨#[], #[.agg (Array.replicate 16 (.int .u8 0)), .agg (Array.replicate 16 (.int .u8 0))], []⟩ 8 (by kernel_rfl) (by kernel_rfl) (by kernel_rfl) (by kernel_rfl)) ?_
  intro W base args ds gs before hval0 hW _ _
  have hval : ∀ (j : Nat) t v, Try.f4.params[j]? = some t → args[j]? = some v → Value.okWide Try.prog W .any base t v := hval0
  have hW' := hW
  obtain ⟨p, q, hA0, hV, rfl, hfz, hnd⟩ := hW
  have hA : DataW.TrodAll enc Try.prog W 0 (fun _ => true) true Try.f4.params.toList args.toList ds p := hA0
  rw [Try.params4] at hA hval
  obtain ⟨v0, vs0, d0, ds0, p0, q0, hargs, rfl, rfl, h0, r0'⟩ := trodAll_cons hA
  obtain ⟨v1, vs1, d1, ds1, p1, q1, rfl, rfl, rfl, h1, r1'⟩ := trodAll_cons r0'
  obtain ⟨rfl, rfl, rfl⟩ := trodAll_nil r1'
  obtain rfl : args = #[v0, v1] := by cases args; simp_all
  obtain ⟨rfl, rfl⟩ := trodVars_none hV
  obtain ⟨l0, hl0, rfl⟩ := open_half (hval 0 25 v0 rfl rfl)
  obtain ⟨l1, hl1, rfl⟩ := open_half (hval 1 25 v1 rfl rfl)
  refine (polyTimes_walk l0 hl0 l1 hl1 W).mono fun e W' ⟨he, hg⟩ => ?_
  subst he
  exact ⟨_, rfl, law_post hW' (grown_below hg) (by kernel_rfl) rfl rfl rfl⟩

theorem polyTimes_holds : Rows.PolyTimesSaid :=
  OpenClaim.holds_of_wide 4 Try.f4 rfl rfl rfl rfl rfl rfl rfl ⟨rfl, rfl, rfl, rfl, rfl⟩ rfl rfl rfl rfl rfl (by kernel_rfl) Try.func4 (by kernel_rfl)
    (of_decide_eq_true (by kernel_rfl)) (by unfold Func.isWrapper; first | (rw [if_pos (by decide +kernel)]; kernel_rfl) | (rw [if_neg (by decide +kernel)]; exact ⟨rfl, rfl⟩))
    (fun os started H enc _ => polyTimes_lifted os started H enc)
#print axioms polyTimes_holds
end Go.Proofs.Ytnekdjejbobmoaa
