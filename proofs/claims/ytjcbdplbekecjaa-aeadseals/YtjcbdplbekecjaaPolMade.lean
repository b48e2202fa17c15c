/-
  A contract as a step; what limbs of a number are below.
-/
import Derived.Test.YtjcbdplbekecjaaPolBytes
import Derived.Test.YtjcbdplbekecjaaReg2Base
namespace Go.Proofs.Ytjcbdplbekecjaa
open Go.RowKit

theorem Val.made {v : Value} {f : FuncId} {args : Array Value} {w : World} (h : Calls Try.prog f args w (Val v w)) : Calls Try.prog f args w (fun e w' => ∃ u, e = .returned u ∧ w.grownBy w' none ∧ Is v u w') :=
  h.mono fun _ _ ⟨he, hg⟩ => ⟨_, he, hg, rfl⟩
theorem lt_digs (v : Nat) : Lt 67108864 (digs 67108864 5 v) := digs_lt 67108864 5 v (by decide)
theorem widen_low (v : Nat) : Low (digs 67108864 5 v) 8589934592 134217728 := by
  obtain ⟨h1, h2, h3⟩ := digs_low v
  exact ⟨h1, by omega, fun k hk => by have := h3 k hk; omega⟩
theorem valL_red (v : Nat) : valL (digs 67108864 5 (v % PP)) = v % PP := valL_digs _ (by
  have := Nat.mod_lt v (show 0 < PP by decide)
  unfold PP at *
  omega)
end Go.Proofs.Ytjcbdplbekecjaa
