/-
  What Open answers of too few bytes, and of another tag.
-/
import Derived.Test.YtjcbdplbekecjaaAeAwake
namespace Go.Proofs.Ytjcbdplbekecjaa
open Go.RowKit

theorem Open.two {key nonce h s : List UInt8} {f : FuncId} {args : Array Value} {w : World} (hc : Calls Try.prog f args w (OpenOut key nonce h s w)) (hs : s.length < 16) :
    Calls Try.prog f args w (fun e w' => ∃ v, e = .returned v ∧ w.grownBy w' none ∧ Is (.tuple #[.slice none 0 0, .int .i64 2]) v w') :=
  hc.mono fun e w' ⟨hg, h0⟩ => by
    rcases h0 with ⟨_, he⟩ | ⟨h1, _⟩ | ⟨h1, _⟩
    · exact ⟨_, he, hg, rfl⟩
    · omega
    · omega
theorem byte_xor_ne (y b : UInt8) (h : b ≠ 0) : y ^^^ b ≠ y := by
  intro e
  apply h
  have : y ^^^ (y ^^^ b) = y ^^^ y := by rw [e]
  rw [← UInt8.xor_assoc, UInt8.xor_self, UInt8.zero_xor] at this
  exact this
theorem OpenOut.turned {key nonce h t : List UInt8} {w w' : World} {e : Ending} (j : Nat) (y : UInt8) (hj : t.length ≤ j) (hj2 : j < t.length + 16) (hy : y ≠ (sealB key nonce h t).getD j 0)
    (hO : OpenOut key nonce h ((sealB key nonce h t).set j y) w e w') : e = .returned (.tuple #[.slice none 0 0, .int .i64 8]) ∧ w.grownBy w' none := by
  have hl : ((sealB key nonce h t).set j y).length = t.length + 16 := by rw [List.length_set, sealB_len]
  have e1 : ((sealB key nonce h t).set j y).length - 16 = t.length := by omega
  have hjl : j < (sealB key nonce h t).length := by rw [sealB_len]; exact hj2
  obtain ⟨hg, ⟨h0, _⟩ | ⟨_, _, he⟩ | ⟨_, h1, _⟩⟩ := hO
  · omega
  · exact ⟨he, hg⟩
  · exfalso
    rw [e1, List.take_set_of_le hj, sealB_take, ← sealB_drop key nonce h t] at h1
    have h2 := congrArg (fun l => l[j - t.length]?) h1
    simp only [List.getElem?_drop, show t.length + (j - t.length) = j by omega, List.getElem?_set_self hjl] at h2
    rw [List.getElem?_eq_getElem hjl] at h2
    apply hy
    rw [List.getD_eq_getElem?_getD, List.getElem?_eq_getElem hjl]
    simpa using h2.symm
end Go.Proofs.Ytjcbdplbekecjaa
