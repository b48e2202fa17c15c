/-
  A map keyed by ints, of ints: what it holds, as a function of the key.
-/
import Derived.Test.YtibofgokdjbomaaMMem
import Derived.Test.YtibofgokdjbomaaChecked
import Derived.Maps.OwnSet
import Derived.Maps.OwnOps
namespace Go.Proofs.Ytibofgokdjbomaa
set_option maxRecDepth 1000000
open Go.RowKit Go.Maps

def ilit (x : Int) : Lit := .int .i64 x
theorem intLaw : Keyed Try.prog 3 := int_keyed Try.underlying3
theorem zeroI (w : World) : (zeroValue 3).run Try.prog w = .ok (.int .i64 0) w := by kernel_rfl
/-- A number that is an int. -/
def Fits64 (x : Int) : Prop := -9223372036854775808 ≤ x ∧ x ≤ 9223372036854775807
theorem wf64 {x : Int} (h : Fits64 x) : (Lit.int .i64 x).wf = true := by
  obtain ⟨h1, h2⟩ := h
  simp [Lit.wf, IntKind.min, IntKind.max, IntKind.bits, IntKind.signed]
  omega
theorem keyOf_i {x : Int} (h : Fits64 x) : keyOf Try.prog 3 (.int .i64 x) = some (ilit x) := keyOf_int_mk Try.underlying3 (wf64 h)
theorem ilit_ne {x y : Int} (h : x ≠ y) : ilit x ≠ ilit y := fun e => h (by injection e)
/-- Block b is a map of at most n entries that holds what M tells. -/
def Mi (w : World) (b n : Nat) (M : Int → Option Int) : Prop :=
  ∃ D : DataW Unit, w.ownsMap Try.prog 3 (plainElem Try.prog 3) b n D ∧ ∀ x, Maps.has D (ilit x) = (M x).isSome ∧ D.atKey (ilit x) (.lit (.int .i64 0)) = .lit (.int .i64 ((M x).getD 0))
theorem Mi.made (w : World) {b : Nat} (hb : w.heap.size = b) : Mi (w.alloc (.map #[] 0)) b 0 (fun _ => none) := by
  subst hb
  exact ⟨.map [], World.ownsMap_made _ _ _ _, fun x => ⟨rfl, rfl⟩⟩
theorem Mi.kept {w w' : World} {b n : Nat} {M : Int → Option Int} {row : Option Nat} (h : Mi w b n M) (hg : w.grownBy w' row) (hne : some b ≠ row) : Mi w' b n M := by
  obtain ⟨D, h1, h2⟩ := h
  exact ⟨D, h1.kept hg hne, h2⟩
theorem Mi.grown0 {w w' : World} {b n : Nat} {M : Int → Option Int} (h : Mi w b n M) (hg : w.grownBy w' none) : Mi w' b n M := h.kept hg (by simp)
theorem Mi.lt {w : World} {b n : Nat} {M : Int → Option Int} (h : Mi w b n M) : b < w.heap.size := by
  obtain ⟨D, h1, _⟩ := h
  exact h1.lt
theorem Mi.mono {w : World} {b n n' : Nat} {M : Int → Option Int} (h : Mi w b n M) (hn : n ≤ n') : Mi w b n' M := by
  obtain ⟨D, h1, h2⟩ := h
  exact ⟨D, h1.mono hn, h2⟩
/-- m[k] with ok. -/
theorem Mi.look {w : World} {b n : Nat} {M : Int → Option Int} (h : Mi w b n M) (x : Int) (hx : Fits64 x) : (Instr.lookup 94 (.map (some b)) (.int .i64 x) true).run Try.prog w = .ok (.tuple #[.int .i64 ((M x).getD 0), .bool (M x).isSome]) w := by
  obtain ⟨D, h1, h2⟩ := h
  obtain ⟨v, ps, hrun, hv⟩ := h1.look_ok intLaw Try.underlying94 (zeroI w) (plainElem_int Try.underlying3 (by decide)) (keyOf_i hx)
  obtain ⟨c, rfl, hc, _⟩ := plainElem_int_inv Try.underlying3 hv
  rw [hrun]
  have e := congrArg Prod.fst hc
  simp only at e
  rw [(h2 x).2] at e
  injection e with e
  injection e with _ e
  rw [← e, (h2 x).1]
/-- m[k] = v. -/
theorem Mi.store {w : World} {b n : Nat} {M : Int → Option Int} (h : Mi w b n M) (hn : n < maxLen) (x : Int) (hx : Fits64 x) (v : Int) (hv : Fits64 v) :
    ∃ w', (Instr.mapUpdate 94 (.map (some b)) (.int .i64 x) (.int .i64 v)).run Try.prog w = .ok () w' ∧ Mi w' b (n + 1) (fun y => if y = x then some v else M y) ∧ w.grownBy w' (some b) := by
  obtain ⟨D, h1, h2⟩ := h
  obtain ⟨w', hrun, h3, h4⟩ := h1.update intLaw Try.underlying94 hn (keyOf_i hx) (plainElem_int Try.underlying3 (wf64 hv))
  refine ⟨w', hrun, ⟨_, h3, fun y => ?_⟩, h4⟩
  show Maps.has _ _ = (if y = x then some v else M y).isSome ∧ _ = DataW.lit (Lit.int .i64 ((if y = x then some v else M y).getD 0))
  by_cases hy : y = x
  · subst hy
    rw [if_pos rfl]
    exact ⟨has_put_same h1.isMap (intLaw.key (keyOf_i hx)) _, atKey_put_same h1.isMap (intLaw.key (keyOf_i hx)) _ _⟩
  · rw [if_neg hy, has_put_other (ilit_ne hy), atKey_put_other (ilit_ne hy)]
    exact h2 y
end Go.Proofs.Ytibofgokdjbomaa
