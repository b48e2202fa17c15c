/-
  Words that several layers have in common, of no program.
-/
import Derived.Test.YtohndlfekecfoaaRowOps
import Derived.Test.YtohndlfekecfoaaReg2Base
namespace Go.Proofs.Ytohndlfekecfoaa
set_option maxRecDepth 1000000
open Go.RowKit

theorem bytesV_at (b : List UInt8) (k : Nat) (h : k < b.length) : (bytesV b)[k]? = some (.int .u8 ((b.getD k 0).toNat : Int)) := by simp [bytesV, byteV, List.getElem?_eq_getElem h]
def Val (v : Value) (w : World) (e : Ending) (w' : World) : Prop := e = .returned v ∧ w.grownBy w' none
def noughts8 (n : Nat) : List Value := List.replicate n (.int .u8 0)
theorem bytesV_set (l : List UInt8) (k : Nat) (x : UInt8) : (bytesV l).set k (byteV x) = bytesV (l.set k x) := by simp [bytesV, List.map_set]
theorem Row.rds {w : World} {g : Nat} {t : TypeId} {cs : List Value} (h : Row w g t cs) (n c : Nat) (hn : cs.length = n) (hc : n ≤ c) (hm : c ≤ maxLen) : Rd w (.slice (some ⟨g, 0, none⟩) n c) cs := by
  subst hn
  refine ⟨_, c, rfl, hc, hm, fun _ => ⟨_, rfl, fun j u hu => ?_⟩⟩
  have : (⟨g, 0, none⟩ : Addr).add j = ⟨g, j, none⟩ := by unfold Addr.add; split <;> simp_all
  rw [this]
  exact h.cell hu
theorem GrownX.none2 {w w' : World} (h : GrownX [] w.drew w') : w.grownBy w' Option.none := ⟨h.os, h.tape, h.output, h.size, fun k hk _ => h.block k hk (by simp)⟩
end Go.Proofs.Ytohndlfekecfoaa
