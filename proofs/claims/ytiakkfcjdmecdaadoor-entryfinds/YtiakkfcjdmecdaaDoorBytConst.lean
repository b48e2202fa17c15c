/-
  Bytes written as a constant text, over this program.
-/
import Derived.Test.YtiakkfcjdmecdaaDoorMMem
import Derived.Test.YtiakkfcjdmecdaaDoorChecked
import Derived.Lib.SlBytesConst
namespace Go.Proofs.YtiakkfcjdmecdaaDoor
set_option maxRecDepth 1000000
open Go.RowKit

theorem const_at (w : World) (H : Nat) (hH : w.heap.size = H) (C : Array Value) (n c : Nat) :
    (convert 45 45 (.slice (some ⟨H, 0, none⟩) n c)).run Tryd.prog (w.alloc (.cells C 5)) = .ok (.slice (some ⟨H, 0, none⟩) n c) (w.alloc (.cells C 5 (C.size, C.size + 1))) := by
  subst hH
  exact Lib.run_convert_bytes_const (P := Tryd.prog) w 45 5 C n c Tryd.underlying45 Tryd.underlying5
theorem Rd.const (w : World) (H : Nat) (hH : w.heap.size = H) (l : List UInt8) (mk : Nat × Nat) (n : Nat) (hn : l.length = n) (hc : n ≤ maxLen) : Rd (w.alloc (.cells (bytesV l).toArray 5 mk)) (.slice (some ⟨H, 0, none⟩) n n) (bytesV l) := by
  subst hH hn
  have := Rd.new w (bytesV l) 5 mk (bytesV l).length (Nat.le_refl _) (by rw [bytesV_len]; exact hc)
  rw [bytesV_len] at this
  exact this
end Go.Proofs.YtiakkfcjdmecdaaDoor
