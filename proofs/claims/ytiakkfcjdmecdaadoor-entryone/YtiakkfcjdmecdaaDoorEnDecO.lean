/-
  octet's Reader: Bytes over this program (a text's bytes).
-/
import Derived.Test.YtiakkfcjdmecdaaDoorEnDec
namespace Go.Proofs.YtiakkfcjdmecdaaDoor.O
open Go.RowKit

theorem numOf_len (l : List UInt8) (x most : Int) : (numOf l x most).2.1.length ≤ l.length := by
  unfold numOf
  split
  · split
    · split
      · exact Nat.le_refl _
      · simp
    · exact Nat.le_refl _
  · exact Nat.le_refl _
/-- What Bytes answers: new bytes. -/
def RBytesOut (w : World) (g : Nat) (p : List UInt8 × List UInt8 × Int) (e : Ending) (w' : World) : Prop :=
  ∃ v, e = .returned v ∧ Rd w' v (bytesV p.1) ∧ Rdr w' g p.2.1 p.2.2 ∧ w.grownBy w' (some g)
theorem takeOf_len (l : List UInt8) (x : Int) (n : Nat) : (takeOf l x n).1.length ≤ l.length := by
  unfold takeOf
  split
  · split
    · simp; omega
    · simp
  · simp
theorem takeOf_rest (l : List UInt8) (x : Int) (n : Nat) : (takeOf l x n).2.1.length ≤ l.length := by
  unfold takeOf
  split
  · split
    · simp
    · exact Nat.le_refl _
  · exact Nat.le_refl _
set_option maxHeartbeats 1000000 in
theorem rbytes_at (g : Nat) (l : List UInt8) (x most : Int) (w : World) (h : Rdr w g l x) (hl : l.length ≤ 140737488355328) :
    Calls Tryd.prog 80 #[.pointer (some ⟨g, 0, none⟩), .int .i64 most] w (RBytesOut w g (textOf l x most)) := by
  have HN := Lib.hid (rnum_at g l x most w h hl)
  have hln := numOf_len l x most
  have hlt := h.lt
  unfold textOf
  generalize numOf l x most = p at *
  obtain ⟨n, l1, x1⟩ := p
  clear h
  have hl1 : l1.length ≤ 140737488355328 := Nat.le_trans hln hl
  have HL1 : Hid (l1.length ≤ 140737488355328) := hl1
  clear hl hl1 hln
  go_enter Tryd.func80, Tryd.ntmps80
  go_wp2_with fail
  refine HN.out.mono ?_
  rintro e w1 ⟨rfl, hr1, hg1⟩
  have HT := Lib.hid (take_at g l1 x1 n w1 hr1)
  have htl := takeOf_len l1 x1 n
  go_wp2_with fail
  refine HT.out.mono ?_
  show ∀ e w', TakeOut w1 g (takeOf l1 x1 n) e w' → _
  generalize takeOf l1 x1 n = q at *
  rintro e w2 ⟨v2, rfl, hv2, hb2, hr2, hg2⟩
  have HC := Lib.hid (clone_any v2 q.1 w2 hv2 (Nat.le_trans htl HL1.out))
  obtain ⟨A2, c2, rfl⟩ := hv2.form
  go_wp2_with fail
  refine HC.out.mono ?_
  rintro e w3 ⟨v3, rfl, hr3, hg3, hf3⟩
  go_wp2
  go_ret
  exact ⟨_, rfl, hr3, hr2.grown hg3 (fun b hb => by cases hb), (hg1.trans hg2).trans (grown_none hg3 _)⟩
end Go.Proofs.YtiakkfcjdmecdaaDoor.O
namespace Go.Proofs.YtiakkfcjdmecdaaDoor
set_option maxRecDepth 1000000
open Go.RowKit
theorem textOf_rest (l : List UInt8) (x most : Int) : (textOf l x most).2.1.length ≤ l.length := Nat.le_trans (O.takeOf_rest _ _ _) (O.numOf_len _ _ _)
theorem entOf_rest (s : St) : (entOf s).2.1.length ≤ s.1.length := by
  simp only [entOf]
  exact Nat.le_trans (textOf_rest _ _ _) (Nat.le_trans (textOf_rest _ _ _) (Nat.le_trans (O.numOf_len _ _ _) (Nat.le_trans (O.numOf_len _ _ _) (Nat.le_trans (O.numOf_len _ _ _) (Nat.le_trans (O.numOf_len _ _ _) (O.numOf_len _ _ _))))))
end Go.Proofs.YtiakkfcjdmecdaaDoor
