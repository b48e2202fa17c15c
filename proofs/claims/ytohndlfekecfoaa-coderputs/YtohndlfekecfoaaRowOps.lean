/-
  Whole rows at the operations of a region that draws; a frame told slot by slot (of no program).
-/
import Derived.Test.YtohndlfekecfoaaRow
import Derived.Test.YtohndlfekecfoaaRegBase
namespace Go.Proofs.Ytohndlfekecfoaa
set_option maxRecDepth 1000000
open Go.RowKit

section
variable {P : Program} {o : Oper} {a : Act} {w : World}
theorem ex_load_part {x : Operand} {ty : TypeId} (ho : o.op = .load ty x) (g off : Nat) (t : TypeId) (cs xs : List Value) (d : TypeDesc) (hv : a.eval x = .pointer (some ⟨g, off, none⟩)) (hr : Row w g t cs) (hx : ∀ (j : Nat) u, xs[j]? = some u → cs[off + j]? = some u)
    (hu : P.underlying ty = some d) (hd : (match d with | .struct _ | .array _ _ => true | _ => false) = true) (hi : (P.info? ty).map (·.size) = some xs.length) :
    (execOp a.eval o).run P w = .ok (.value (.agg xs.toArray)) w := by
  have hrun := run_loadAt_part (P := P) w g off t ty cs xs d hr hx hu hd hi
  unfold execOp
  simp only [ho, hv, Sem.run_bind, hrun, Result.andThen_ok, Sem.run_pure]
theorem ex_load_row {x : Operand} {ty : TypeId} (ho : o.op = .load ty x) (g : Nat) (t : TypeId) (cs : List Value) (d : TypeDesc) (hv : a.eval x = .pointer (some ⟨g, 0, none⟩)) (hr : Row w g t cs)
    (hu : P.underlying ty = some d) (hd : (match d with | .struct _ | .array _ _ => true | _ => false) = true) (hi : (P.info? ty).map (·.size) = some cs.length) :
    (execOp a.eval o).run P w = .ok (.value (.agg cs.toArray)) w :=
  ex_load_part ho g 0 t cs cs d hv hr (fun j u hu => by rw [Nat.zero_add]; exact hu) hu hd hi
end

/-- A frame told slot by slot. -/
theorem act_of_slots {a : Act} {l : List Value} (hs : a.tmps.size = l.length) (hd : a.defers = []) (h : ∀ i, i < l.length → a.eval (.tmp i) = l.getD i undef) : a = ⟨l.toArray, []⟩ := by
  obtain ⟨tm, df⟩ := a
  simp only at hd hs
  subst hd
  congr 1
  apply Array.ext
  · simpa using hs
  · intro i h1 h2
    have := h i (by omega)
    simp only [Act.eval, Array.getD_eq_getD_getElem?, Array.getElem?_eq_getElem h1, List.getD_eq_getElem?_getD] at this
    rw [List.getElem?_eq_getElem (by omega)] at this
    simpa using this
end Go.Proofs.Ytohndlfekecfoaa
