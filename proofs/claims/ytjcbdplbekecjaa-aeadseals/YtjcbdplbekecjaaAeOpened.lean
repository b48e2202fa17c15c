/-
  What Open answers, the program's and the document's own: one and the same.
-/
import Derived.Test.YtjcbdplbekecjaaAeAwake
import Derived.Test.YtjcbdplbekecjaaMRa
namespace Go.Proofs.Ytjcbdplbekecjaa
open Go.RowKit

/-- What is opened: bytes, and a number. -/
def opened (key nonce h s : List UInt8) : List UInt8 × Nat :=
  if s.length < 16 then ([], 2) else if tagA key nonce h (s.take (s.length - 16)) = s.drop (s.length - 16) then (xs key 1#32 nonce (s.take (s.length - 16)), 0) else ([], 8)
theorem opened_len (key nonce h s : List UInt8) : (opened key nonce h s).1.length ≤ s.length := by
  unfold opened
  split
  · simp
  · split
    · simp only [xs_len, List.length_take]; omega
    · simp
/-- A pair of bytes and a number. -/
def IsT (l : List UInt8) (p : Nat) (v : Value) (w : World) : Prop := ∃ u, v = .tuple #[u, .int .i64 (p : Int)] ∧ Rd w u (bytesV l)
theorem stays_T (l : List UInt8) (p j : Nat) : StaysBut [] j (IsT l p) := fun _ _ _ _ _ ⟨u, h1, h2⟩ hg => ⟨u, h1, Rd.grown0 h2 hg⟩
theorem OpenOut.pair {key nonce h s : List UInt8} {w w' : World} {e : Ending} (hO : OpenOut key nonce h s w e w') (hs : s.length ≤ 100000000000) : ∃ v, e = .returned v ∧ w.grownBy w' none ∧ IsT (opened key nonce h s).1 (opened key nonce h s).2 v w' := by
  unfold opened
  obtain ⟨hg, ⟨h0, he⟩ | ⟨h0, h1, he⟩ | ⟨h0, h1, v, he, hx⟩⟩ := hO
  · rw [if_pos h0]; exact ⟨_, he, hg, _, rfl, Rd.nil _⟩
  · rw [if_neg (by omega), if_neg h1]; exact ⟨_, he, hg, _, rfl, Rd.nil _⟩
  · rw [if_neg (by omega), if_pos h1]; exact ⟨_, he, hg, _, rfl, IsX.rd hx (by simp only [xs_len, List.length_take]; omega)⟩
theorem ROpenOut.pair {key nonce h s : List UInt8} {w w' : World} {e : Ending} (hO : ROpenOut key nonce h s w e w') : ∃ v, e = .returned v ∧ w.grownBy w' none ∧ IsT (opened key nonce h s).1 (opened key nonce h s).2 v w' := by
  unfold opened
  obtain ⟨hg, ⟨h0, he⟩ | ⟨h0, h1, he⟩ | ⟨h0, h1, v, he, hx⟩⟩ := hO
  · rw [if_pos h0]; exact ⟨_, he, hg, _, rfl, Rd.nil _⟩
  · rw [if_neg (by omega), if_neg h1]; exact ⟨_, he, hg, _, rfl, Rd.nil _⟩
  · rw [if_neg (by omega), if_pos h1]; exact ⟨_, he, hg, _, rfl, hx⟩
section
variable {o : Oper} {a : Act} {w : World}
theorem st_fst {x : Operand} {l : List UInt8} {p : Nat} (h : o.op = .extract x 0) (hx : IsT l p (a.eval x) w) : Runs (IsB l) o a w := by
  obtain ⟨u, hu, hr⟩ := hx
  refine ⟨u, ?_, hr⟩
  simp only [execOp, h, hu]
  simp [go_sem]
theorem st_snd {x : Operand} {l : List UInt8} {p : Nat} (h : o.op = .extract x 1) (hx : IsT l p (a.eval x) w) : Runs (Is (.int .i64 (p : Int))) o a w := by
  obtain ⟨u, hu, hr⟩ := hx
  refine ⟨_, ?_, rfl⟩
  simp only [execOp, h, hu]
  simp [go_sem]
end
end Go.Proofs.Ytjcbdplbekecjaa
