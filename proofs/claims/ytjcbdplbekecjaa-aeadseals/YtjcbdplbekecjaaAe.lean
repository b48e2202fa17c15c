/-
  What is sealed, of no program: a text xored, and the tag of a header and of it.
-/
import Derived.Test.YtjcbdplbekecjaaCha
import Derived.Test.YtjcbdplbekecjaaPol
import Derived.Test.YtjcbdplbekecjaaPutFix
namespace Go.Proofs.Ytjcbdplbekecjaa

/-- Bytes, and noughts up to a multiple of sixteen. -/
def upB (l : List UInt8) : List UInt8 := l ++ List.replicate ((16 - l.length % 16) % 16) 0
theorem upB_len (l : List UInt8) : (upB l).length = l.length + (16 - l.length % 16) % 16 := by simp [upB]
theorem upB_mod (l : List UInt8) : (upB l).length % 16 = 0 := by rw [upB_len]; omega
theorem upB_done (l : List UInt8) (h : l.length % 16 = 0) : upB l = l := by simp [upB, h]
theorem upB_more (l : List UInt8) (h : l.length % 16 ≠ 0) : upB (l ++ [0]) = upB l := by
  have e : (16 - l.length % 16) % 16 = (16 - (l ++ [(0 : UInt8)]).length % 16) % 16 + 1 := by
    rw [List.length_append, List.length_singleton]
    omega
  unfold upB
  rw [e, List.replicate_succ, List.append_assoc, List.singleton_append]
theorem upB_app (a b : List UInt8) (h : a.length % 16 = 0) : upB (a ++ b) = a ++ upB b := by
  unfold upB
  rw [List.append_assoc, List.length_append, show (a.length + b.length) % 16 = b.length % 16 by omega]
theorem upB_le (l : List UInt8) : (upB l).length ≤ l.length + 15 := by rw [upB_len]; omega
theorem upB_nil : upB [] = [] := upB_done [] rfl

/-- What is tagged. -/
def tagd (h x : List UInt8) : List UInt8 := upB h ++ upB x ++ (low 8 h.length ++ low 8 x.length)
theorem tagd_len (h x : List UInt8) : (tagd h x).length ≤ h.length + x.length + 46 := by
  have h1 := upB_le h
  have h2 := upB_le x
  simp only [tagd, List.length_append, low_len]
  omega
theorem tagd_put (h x : List UInt8) : upB (upB (upB h ++ x) ++ (low 8 h.length ++ low 8 x.length)) = tagd h x := by
  have h1 := upB_mod h
  have h2 := upB_mod x
  rw [upB_app _ _ h1, upB_app _ _ (by rw [List.length_append]; omega), upB_done (low 8 h.length ++ low 8 x.length) (by simp [low_len])]
  rfl
/-- The key of one tag. -/
def otk (key nonce : List UInt8) : List UInt8 := (blok key 0#32 nonce).take 32
theorem otk_len (key nonce : List UInt8) : (otk key nonce).length = 32 := by simp [otk, blok_len]
/-- The tag of a header and of a text that has been xored. -/
def tagA (key nonce h x : List UInt8) : List UInt8 := tagB (otk key nonce) (tagd h x)
theorem tagA_len (key nonce h x : List UInt8) : (tagA key nonce h x).length = 16 := tagB_len _ _
/-- A text, sealed. -/
def sealB (key nonce h t : List UInt8) : List UInt8 := xs key 1#32 nonce t ++ tagA key nonce h (xs key 1#32 nonce t)
theorem sealB_len (key nonce h t : List UInt8) : (sealB key nonce h t).length = t.length + 16 := by simp [sealB, tagA_len, xs_len]
theorem sealB_take (key nonce h t : List UInt8) : (sealB key nonce h t).take t.length = xs key 1#32 nonce t := by
  unfold sealB
  rw [List.take_append_of_le_length (by rw [xs_len]; exact Nat.le_refl _), List.take_of_length_le (by rw [xs_len]; exact Nat.le_refl _)]
theorem sealB_drop (key nonce h t : List UInt8) : (sealB key nonce h t).drop t.length = tagA key nonce h (xs key 1#32 nonce t) := by
  unfold sealB
  rw [List.drop_append, List.drop_of_length_le (by rw [xs_len]; exact Nat.le_refl _), xs_len]
  simp
/-- What was sealed is right where its tag is that of what stands ahead of it. -/
def right (key nonce h s : List UInt8) : Prop := 16 ≤ s.length ∧ tagA key nonce h (s.take (s.length - 16)) = s.drop (s.length - 16)
theorem right_iff (key nonce h s : List UInt8) : tagA key nonce h (s.take (s.length - 16)) = s.drop (s.length - 16) ↔ sealB key nonce h (xs key 1#32 nonce (s.take (s.length - 16))) = s := by
  unfold sealB
  rw [xs_xs]
  constructor
  · intro e
    rw [e, List.take_append_drop]
  · intro e
    have e2 : s.take (s.length - 16) ++ tagA key nonce h (s.take (s.length - 16)) = s.take (s.length - 16) ++ s.drop (s.length - 16) := by rw [e, List.take_append_drop]
    exact List.append_cancel_left e2

end Go.Proofs.Ytjcbdplbekecjaa
