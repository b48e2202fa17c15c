/-
  From a walk that returns true and turns nothing old to the given row's post: for whatever arguments.
-/
import Derived.Test.YtiakkfcjdmecdaaDoorMMem
import Derived.Test.YtiakkfcjdmecdaaDoorRows
import Derived.ProofKit
import Derived.OpenShut
import Derived.ShutString
import Derived.ChangeOld
import Derived.Below
import Derived.Carry
namespace Go.Proofs.YtiakkfcjdmecdaaDoor
set_option maxRecDepth 1000000
open Go.ChangeShapes Go.WideShapes Go.ChangeAt Go.RowKit

theorem ownKnobNone : ownKnob Tryd.prog.godebug = none := by kernel_rfl
theorem laidOutTrue : laidOutB Tryd.prog = true := by kernel_rfl

/-- Each type can be read again. -/
def readAll (P : Program) (ts : List TypeId) : Bool := ts.all fun t => P.readableRec t && decide (t < P.types.size)

theorem trodAll_later {H : Type} {enc : TypeId × Value → H} {P : Program} (hlay : laidOutB P = true) {W W' : World} (hb : Below W.heap.size W W') (ts : List TypeId) (vs : List Value) (ds : List (DataW H)) (ps : List MemPlace)
    (hr : readAll P ts = true) (h : DataW.TrodAll enc P W 0 (fun _ => true) true ts vs ds ps) (hl : ∀ x ∈ ps, x.block < W.heap.size) :
    DataW.TrodAll enc P W' 0 (fun b => decide (b < W.heap.size)) true ts vs ds ps := by
  induction ts generalizing vs ds ps with
  | nil =>
    obtain ⟨rfl, rfl, rfl⟩ := trodAll_nil h
    exact trodAll_mk0
  | cons t ts ih =>
    obtain ⟨v, vs', d, ds', p, q, rfl, rfl, rfl, h1, h2⟩ := trodAll_cons h
    simp only [readAll, List.all_cons, Bool.and_eq_true, decide_eq_true_eq] at hr
    exact trodAll_cons_mk (Below.trod hlay hr.1.1 hr.1.2 h1 hb (fun x hx => hl x (by simp [hx])))
      (ih vs' ds' q hr.2 h2 (fun x hx => hl x (by simp [hx])))

theorem law_post {H : Type} {enc : TypeId × Value → H} {fn : Func} {s : ChangeSpec} {W W' : World} {args : Array Value} {ds gs : List (DataW H)} {before : List MemPlace}
    (hW : DataW.Whole enc Tryd.prog fn.params.toList s.vars false W args.toList ds gs before) (bel : Below W.heap.size W W')
    (hps : readAll Tryd.prog fn.params.toList = true) (hrt : fn.resultTypes = #[4]) (hvars : s.vars = []) (hsp : s.fn H (ds ++ gs) = { results := [.lit (.bool true)], args := ds }) :
    s.post enc Tryd.prog fn false true false false W args (.bool true) W' := by
  have hlt : ∀ p ∈ before, p.block < W.heap.size := fun p hp => hW.lt p hp
  have hW' := hW
  obtain ⟨p, q, hA, hV, rfl, hfz, hnd⟩ := hW
  rw [hvars] at hV
  obtain ⟨rfl, rfl⟩ := trodVars_none hV
  refine ⟨ds, [], p ++ [], [], p, [], hW', ?_, ?_, ?_, bel.frame _, fun h => by cases h⟩
  · rw [hsp, hrt]
    exact trodAll_mk1 (shut_bool Tryd.underlying4 _)
  · rw [hsp]
    exact trodAll_later laidOutTrue bel _ _ _ _ hps hA (fun x hx => hlt x (by simp [hx]))
  · rw [hsp, hvars]
    rfl
end Go.Proofs.YtiakkfcjdmecdaaDoor
