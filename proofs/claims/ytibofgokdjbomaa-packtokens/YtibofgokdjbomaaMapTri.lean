/-
  A map keyed by three bytes, of numbers: what it holds, as a function of the key.
-/
import Derived.Test.YtibofgokdjbomaaMMem
import Derived.Test.YtibofgokdjbomaaChecked
import Derived.Maps.OwnSet
import Derived.Maps.OwnOps
import Derived.DeepKeys5
namespace Go.Proofs.Ytibofgokdjbomaa
set_option maxRecDepth 1000000
open Go.RowKit Go.Maps

abbrev Tri := UInt8 × UInt8 × UInt8
def triV (x : Tri) : Value := .agg #[.int .u8 (x.1.toNat : Int), .int .u8 (x.2.1.toNat : Int), .int .u8 (x.2.2.toNat : Int)]
def triL (x : Tri) : Lit := .string (keyBytes [.int .u8 (x.1.toNat : Int), .int .u8 (x.2.1.toNat : Int), .int .u8 (x.2.2.toNat : Int)])

theorem laidOutT : laidOutB Try.prog = true := by kernel_rfl
theorem wideT : (match Try.prog.underlying 135 with | some (.array _ _) | some (.struct _) => true | _ => false) = true := by rw [Try.underlying135]
theorem triLaw : Keyed Try.prog 135 := Keyed.of_law (deep_law_laid laidOutT (m := 2) (by omega) (of_decide_eq_true (by kernel_rfl)) (by kernel_rfl) wideT)
theorem wf8 (c : UInt8) : (Lit.int .u8 (c.toNat : Int)).wf = true := by
  have := UInt8.toNat_lt c
  simp [Lit.wf, IntKind.min, IntKind.max, IntKind.bits, IntKind.signed]
  omega
theorem keyOf_tri (x : Tri) : keyOf Try.prog 135 (triV x) = some (triL x) := by
  have hk : Try.prog.keyType 135 = true := by kernel_rfl
  have hc : Try.prog.cellsOf 135 = 3 := by kernel_rfl
  have hc1 : Try.prog.cellsOf 5 = 1 := by kernel_rfl
  obtain ⟨m, hm⟩ : ∃ m, Try.prog.types.size = m + 1 := ⟨Try.prog.types.size - 1, by have : 0 < Try.prog.types.size := of_decide_eq_true (by kernel_rfl); omega⟩
  unfold keyOf
  simp only [Try.underlying135]
  rw [if_pos (by simp [hk, Value.formed, Try.underlying135, hc, triV]), hm]
  unfold Program.keyLits
  simp only [Try.underlying135, Value.cells, triV]
  rw [if_pos (by rw [hc]; rfl), show List.range 3 = [0, 1, 2] from rfl, List.mapM_cons, List.mapM_cons, List.mapM_cons, List.mapM_nil]
  simp [hc1, Program.keyLits, Try.underlying5, wf8, triL]
theorem triV_inj {x y : Tri} (h : triV x = triV y) : x = y := by
  obtain ⟨a, b, c⟩ := x
  obtain ⟨d, e, f⟩ := y
  simp [triV] at h
  obtain ⟨h1, h2, h3⟩ := h
  simp only [Prod.mk.injEq]
  exact ⟨UInt8.toNat_inj.1 (by omega), UInt8.toNat_inj.1 (by omega), UInt8.toNat_inj.1 (by omega)⟩
theorem triL_ne {x y : Tri} (h : x ≠ y) : triL x ≠ triL y := fun e => h (triV_inj (triLaw.inj (keyOf_tri x) (by rw [keyOf_tri y, e])))
theorem zeroInt (w : World) : (zeroValue 3).run Try.prog w = .ok (.int .i64 0) w := by kernel_rfl

/-- Block b is a map of at most n entries that holds what M tells. -/
def Mp (w : World) (b n : Nat) (M : Tri → Option Int) : Prop :=
  ∃ D : DataW Unit, w.ownsMap Try.prog 135 (plainElem Try.prog 3) b n D ∧ ∀ x, Maps.has D (triL x) = (M x).isSome ∧ D.atKey (triL x) (.lit (.int .i64 0)) = .lit (.int .i64 ((M x).getD 0))
theorem Mp.made (w : World) {b : Nat} (hb : w.heap.size = b) : Mp (w.alloc (.map #[] 0)) b 0 (fun _ => none) := by
  subst hb
  exact ⟨.map [], World.ownsMap_made _ _ _ _, fun x => ⟨rfl, rfl⟩⟩
theorem Mp.kept {w w' : World} {b n : Nat} {M : Tri → Option Int} {row : Option Nat} (h : Mp w b n M) (hg : w.grownBy w' row) (hne : some b ≠ row) : Mp w' b n M := by
  obtain ⟨D, h1, h2⟩ := h
  exact ⟨D, h1.kept hg hne, h2⟩
theorem Mp.grown0 {w w' : World} {b n : Nat} {M : Tri → Option Int} (h : Mp w b n M) (hg : w.grownBy w' none) : Mp w' b n M := h.kept hg (by simp)
theorem Mp.lt {w : World} {b n : Nat} {M : Tri → Option Int} (h : Mp w b n M) : b < w.heap.size := by
  obtain ⟨D, h1, _⟩ := h
  exact h1.lt
theorem Mp.mono {w : World} {b n n' : Nat} {M : Tri → Option Int} (h : Mp w b n M) (hn : n ≤ n') : Mp w b n' M := by
  obtain ⟨D, h1, h2⟩ := h
  exact ⟨D, h1.mono hn, h2⟩
theorem Mp.same {w : World} {b n : Nat} {M M' : Tri → Option Int} (h : Mp w b n M) (hM : ∀ x, M x = M' x) : Mp w b n M' := by
  obtain ⟨D, h1, h2⟩ := h
  exact ⟨D, h1, fun x => by rw [← hM x]; exact h2 x⟩
/-- m[k] with ok. -/
theorem Mp.look {w : World} {b n : Nat} {M : Tri → Option Int} (h : Mp w b n M) (x : Tri) : (Instr.lookup 111 (.map (some b)) (triV x) true).run Try.prog w = .ok (.tuple #[.int .i64 ((M x).getD 0), .bool (M x).isSome]) w := by
  obtain ⟨D, h1, h2⟩ := h
  obtain ⟨v, ps, hrun, hv⟩ := h1.look_ok triLaw Try.underlying111 (zeroInt w) (plainElem_int Try.underlying3 (by decide)) (keyOf_tri x)
  obtain ⟨c, rfl, hc, _⟩ := plainElem_int_inv Try.underlying3 hv
  rw [hrun]
  have e := congrArg Prod.fst hc
  simp only at e
  rw [(h2 x).2] at e
  injection e with e
  injection e with _ e
  rw [← e, (h2 x).1]
/-- m[k]. -/
theorem Mp.look1 {w : World} {b n : Nat} {M : Tri → Option Int} (h : Mp w b n M) (x : Tri) : (Instr.lookup 111 (.map (some b)) (triV x) false).run Try.prog w = .ok (.int .i64 ((M x).getD 0)) w := by
  obtain ⟨D, h1, h2⟩ := h
  obtain ⟨c, hrun, hat, _⟩ := h1.lookup_int triLaw Try.underlying111 Try.underlying3 (zeroInt w) (keyOf_tri x)
  rw [(h2 x).2] at hat
  injection hat with e
  injection e with _ e
  rw [hrun, e]
/-- m[k] = v. -/
theorem Mp.store {w : World} {b n : Nat} {M : Tri → Option Int} (h : Mp w b n M) (hn : n < maxLen) (x : Tri) (v : Int) (hv : (Lit.int .i64 v).wf = true) :
    ∃ w', (Instr.mapUpdate 111 (.map (some b)) (triV x) (.int .i64 v)).run Try.prog w = .ok () w' ∧ Mp w' b (n + 1) (fun y => if y = x then some v else M y) ∧ w.grownBy w' (some b) := by
  obtain ⟨D, h1, h2⟩ := h
  obtain ⟨w', hrun, h3, h4⟩ := h1.update triLaw Try.underlying111 hn (keyOf_tri x) (plainElem_int Try.underlying3 hv)
  refine ⟨w', hrun, ⟨_, h3, fun y => ?_⟩, h4⟩
  show Maps.has _ _ = (if y = x then some v else M y).isSome ∧ _ = DataW.lit (Lit.int .i64 ((if y = x then some v else M y).getD 0))
  by_cases hy : y = x
  · subst hy
    rw [if_pos rfl]
    exact ⟨has_put_same h1.isMap (triLaw.key (keyOf_tri y)) _, atKey_put_same h1.isMap (triLaw.key (keyOf_tri y)) _ _⟩
  · rw [if_neg hy, has_put_other (triL_ne hy), atKey_put_other (triL_ne hy)]
    exact h2 y
end Go.Proofs.Ytibofgokdjbomaa
