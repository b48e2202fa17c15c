/-
  digest.Of of one slice, over this program; rows that have just been laid.
-/
import Derived.Test.YtmhcfbfdbminnaaDoorDigOf
namespace Go.Proofs.YtmhcfbfdbminnaaDoor
open Go.RowKit

/-- A row that has just been laid. -/
theorem Rd.new (w : World) (xs : List Value) (t : TypeId) (mk : Nat × Nat) (c : Nat) (h : xs.length ≤ c) (hc : c ≤ maxLen) :
    Rd (w.alloc (.cells xs.toArray t mk)) (.slice (some ⟨w.heap.size, 0, none⟩) xs.length c) xs := by
  refine ⟨_, c, rfl, h, hc, fun _ => ⟨_, rfl, fun j u hu => ?_⟩⟩
  have : (⟨w.heap.size, 0, none⟩ : Addr).add j = ⟨w.heap.size, j, none⟩ := by unfold Addr.add; split <;> simp_all
  rw [this, World.cell?_alloc_mark]
  simpa using hu
theorem Rd.alloc {w : World} {v : Value} {xs : List Value} (h : Rd w v xs) (o : Obj) : Rd (w.alloc o) v xs := h.grown0 (grown_alloc (grown_refl _ _) _)
theorem Tab.pos {w : World} (h : Tab w) : 0 < w.heap.size := World.block_lt_of_cell? w _ (h 0 (by decide))

/-- The digest of one slice. -/
theorem of_one (v : Value) (l : List UInt8) (w : World) (t : TypeId) (hT : Tab w) (hr : Rd w v (bytesV l)) (hlen : l.length ≤ 100000000000) :
    Calls Tryd.prog 17 #[.slice (some ⟨w.heap.size, 0, none⟩) 1 1] (w.alloc (.cells #[v] t)) (Val (.agg (bytesV (sha l)).toArray) (w.alloc (.cells #[v] t))) := by
  have h := of_any _ [v] [l] _ (hT.alloc (.cells #[v] t)) (hT.alloc (.cells #[v] t)).pos (Rd.new w [v] t (0, 0) 1 (Nat.le_refl _) (by decide)) (Parts.cons (hr.alloc _) (Parts.nil _)) (by simpa using hlen)
  simpa using h
end Go.Proofs.YtmhcfbfdbminnaaDoor
