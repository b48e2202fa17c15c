/-
  stream.Xor by its contract, as a value of a row of its own.
-/
import Derived.Test.YtjcbdplbekecjaaStrXor
namespace Go.Proofs.Ytjcbdplbekecjaa
open Go.RowKit

/-- A row of the call's own, as Xor answers it. -/
def IsX (l : List UInt8) (v : Value) (w : World) : Prop := ∃ g, v = .slice (some ⟨g, 0, none⟩) l.length l.length ∧ Row w g 5 (bytesV l)
theorem lasts_x (l : List UInt8) : Lasts none (IsX l) := fun _ _ _ ⟨g, h1, h2⟩ hg => ⟨g, h1, h2.grown0 hg⟩
theorem IsX.rd {l : List UInt8} {v : Value} {w : World} (h : IsX l v w) (hl : l.length ≤ 100000000000) : Rd w v (bytesV l) := by
  obtain ⟨g, rfl, hr⟩ := h
  exact hr.rds _ _ (bytesV_len l) (Nat.le_refl _) (by unfold maxLen; omega)
theorem XOut.isX {l : List UInt8} {w w' : World} {e : Ending} (h : XOut l w e w') : ∃ v, e = .returned v ∧ w.grownBy w' none ∧ IsX l v w' := by
  obtain ⟨g, rfl, hr, hg, _⟩ := h
  exact ⟨_, rfl, hg, g, rfl, hr⟩
/-- Xor of whatever reads as bytes. -/
theorem xor_at (key : List UInt8) (hk : key.length = 32) (n : W32) (nonce : List UInt8) (hn : nonce.length = 12) (v : Value) (b : List UInt8) (w : World) (hr : Rd w v (bytesV b)) (hb : b.length ≤ 100000000000) :
    Calls Try.prog 13 #[.agg (bytesV key).toArray, .int .u32 (n.toNat : Int), .agg (bytesV nonce).toArray, v] w (fun e w' => ∃ v, e = .returned v ∧ w.grownBy w' none ∧ IsX (xs key n nonce b) v w') := by
  obtain ⟨A, c, hv⟩ := hr.form
  subst hv
  rw [bytesV_len] at hr ⊢
  exact (xor_any key hk n nonce hn A b.length c b w hr hb).mono fun _ _ h => h.isX
end Go.Proofs.Ytjcbdplbekecjaa
