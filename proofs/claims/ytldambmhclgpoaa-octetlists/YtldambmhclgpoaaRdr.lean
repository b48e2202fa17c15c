/-
  octet's Reader: New, Err, Left, Fail, End, over this program.
-/
import Derived.Test.YtldambmhclgpoaaPuts
namespace Go.Proofs.Ytldambmhclgpoaa
open Go.RowKit

/-- Block g is a Reader with the bytes l left and the error x. -/
def Rdr (w : World) (g : Nat) (l : List UInt8) (x : Int) : Prop :=
  ∃ v, w.heap[g]? = some (.cells #[v, .int .i64 x] 63 (0, 0)) ∧ Rd w v (bytesV l) ∧ ∀ b, v.ownBlock = some b → b < g

theorem Rdr.grown {w w' : World} {g : Nat} {l : List UInt8} {x : Int} {row : Option Nat} (h : Rdr w g l x) (hg : w.grownBy w' row) (hr : ∀ b, row = some b → g < b) : Rdr w' g l x := by
  obtain ⟨v, hb, hv, hl⟩ := h
  have hlt : g < w.heap.size := by
    rcases Nat.lt_or_ge g w.heap.size with h | h
    · exact h
    · rw [Array.getElem?_eq_none h] at hb; cases hb
  refine ⟨v, (hg.block g hlt (fun e => by have := hr g e.symm; omega)).trans hb, hv.grown hg (fun b hb e => ?_), hl⟩
  have := hr b e.symm
  have := hl b hb
  omega

theorem Rdr.lt {w : World} {g : Nat} {l : List UInt8} {x : Int} (h : Rdr w g l x) : g < w.heap.size := by
  obtain ⟨v, hb, _⟩ := h
  rcases Nat.lt_or_ge g w.heap.size with h | h
  · exact h
  · rw [Array.getElem?_eq_none h] at hb; cases hb

theorem row_set {w : World} {g : Nat} {cs : Array Value} {t : TypeId} (h : w.heap[g]? = some (.cells cs t (0, 0))) (i : Nat) (u : Value) :
    (w.setCell ⟨g, i, none⟩ u).heap[g]? = some (.cells (cs.setIfInBounds i u) t (0, 0)) := by
  simp [World.setCell, Array.getElem?_modify, h]

theorem grown_set (w : World) (g i : Nat) (u : Value) : w.grownBy (w.setCell ⟨g, i, none⟩ u) (some g) :=
  ⟨rfl, rfl, rfl, by simp [World.setCell], fun k _ hk => Below.heap_setCell w ⟨g, i, none⟩ u k (fun e => hk (by rw [e]))⟩

/-- What New answers. -/
def NewOut (w : World) (l : List UInt8) (e : Ending) (w' : World) : Prop :=
  ∃ g, e = .returned (.pointer (some ⟨g, 0, none⟩)) ∧ Rdr w' g l 0 ∧ w.heap.size ≤ g ∧ w.grownBy w' none

set_option maxHeartbeats 400000 in
theorem new_any (v : Value) (l : List UInt8) (w : World) (hv : Rd w v (bytesV l)) (hl : l.length ≤ 140737488355328) :
    Calls Try.prog 17 #[v] w (NewOut w l) := by
  have HC := clone_any v l w hv hl
  obtain ⟨A, c, rfl⟩ := hv.form
  have H := Lib.hid HC
  have HLL : Hid (l.length ≤ 140737488355328) := hl
  clear HC hv hl
  go_enter Try.func17, Try.ntmps17
  go_wp2_with fail
  refine H.out.mono ?_
  rintro e w1 ⟨v1, rfl, hr1, hg1, hf1⟩
  have HR := hr1
  obtain ⟨A1, c1, rfl⟩ := hr1.form
  go_wp2
  go_ret
  refine ⟨w1.heap.size, rfl, ⟨_, heap_alloc_new w1 _, HR.grown0 (grown_alloc (grown_refl _ _) _), ?_⟩, hg1.size, grown_alloc hg1 _⟩
  exact fun b hb => (hf1 b hb).2

set_option maxHeartbeats 400000 in
theorem err_nil (w : World) :
    Calls Try.prog 28 #[.pointer none] w fun e w' => e = .returned (.int .i64 2) ∧ w = w' := by
  go_enter Try.func28, Try.ntmps28
  go_wp2
  go_ret
  exact ⟨rfl, rfl⟩

set_option maxHeartbeats 400000 in
theorem err_at (g : Nat) (l : List UInt8) (x : Int) (w : World) (h : Rdr w g l x) :
    Calls Try.prog 28 #[.pointer (some ⟨g, 0, none⟩)] w fun e w' => e = .returned (.int .i64 x) ∧ w = w' := by
  obtain ⟨v, hb, _⟩ := h
  have h1 : w.cell? ⟨g, 1, none⟩ = some (.int .i64 x) := by rw [cell_of_row w g 1 _ _ _ hb]; rfl
  clear hb
  go_enter Try.func28, Try.ntmps28
  go_wp2
  go_ret
  exact ⟨rfl, rfl⟩

def leftOf (l : List UInt8) (x : Int) : Nat := if x = 0 then l.length else 0

set_option maxHeartbeats 400000 in
theorem left_nil (w : World) :
    Calls Try.prog 26 #[.pointer none] w fun e w' => e = .returned (.int .i64 0) ∧ w = w' := by
  go_enter Try.func26, Try.ntmps26
  go_wp2_with (go_at_call 28; refine (err_nil _).mono ?_; rintro e w1 ⟨rfl, rfl⟩)
  go_ret
  exact ⟨rfl, rfl⟩

set_option maxHeartbeats 400000 in
theorem left_at (g : Nat) (l : List UInt8) (x : Int) (w : World) (h : Rdr w g l x) :
    Calls Try.prog 26 #[.pointer (some ⟨g, 0, none⟩)] w fun e w' => e = .returned (.int .i64 (leftOf l x)) ∧ w = w' := by
  have HE := Lib.hid (err_at g l x w h)
  obtain ⟨v, hb, hv, _⟩ := h
  obtain ⟨A, c, rfl⟩ := hv.form
  have h1 : w.cell? ⟨g, 0, none⟩ = some (.slice A (bytesV l).length c) := by rw [cell_of_row w g 0 _ _ _ hb]; rfl
  rw [bytesV_len] at h1
  clear hb hv
  by_cases hx : x = 0
  · subst hx
    have HL : leftOf l 0 = l.length := by simp [leftOf]
    rw [HL]
    clear HL
    go_enter Try.func26, Try.ntmps26
    go_wp2_with (go_at_call 28; refine HE.out.mono ?_; rintro e w1 ⟨rfl, rfl⟩)
    go_ret
    exact ⟨rfl, rfl⟩
  · have HL : leftOf l x = 0 := by simp [leftOf, hx]
    rw [HL]
    clear HL
    have hx1 : (x != 0) = true := by simpa using hx
    go_enter Try.func26, Try.ntmps26
    go_wp2_with (go_at_call 28; refine HE.out.mono ?_; rintro e w1 ⟨rfl, rfl⟩)
    go_ret
    exact ⟨rfl, rfl⟩

/-- What a call on the Reader at g answers: the value, the bytes and the error that are there then. -/
def RdrOut (w : World) (g : Nat) (u : Value) (l : List UInt8) (x : Int) (e : Ending) (w' : World) : Prop :=
  e = .returned u ∧ Rdr w' g l x ∧ w.grownBy w' (some g)

def failOf (x y : Int) : Int := if x = 0 then y else x

set_option maxHeartbeats 400000 in
theorem fail_nil (y : Int) (w : World) :
    Calls Try.prog 27 #[.pointer none, .int .i64 y] w fun e w' => e = .returned (.tuple #[]) ∧ w = w' := by
  go_enter Try.func27, Try.ntmps27
  go_wp2_with (go_at_call 28; refine (err_nil _).mono ?_; rintro e w1 ⟨rfl, rfl⟩)
  go_end0
  exact ⟨rfl, rfl⟩

set_option maxHeartbeats 400000 in
theorem fail_at (g : Nat) (l : List UInt8) (x y : Int) (w : World) (h : Rdr w g l x) :
    Calls Try.prog 27 #[.pointer (some ⟨g, 0, none⟩), .int .i64 y] w (RdrOut w g (.tuple #[]) l (failOf x y)) := by
  have HE := Lib.hid (err_at g l x w h)
  have HR := Lib.hid h
  obtain ⟨v, hb, hv, hl⟩ := h
  by_cases hx : x = 0
  · subst hx
    have h1 : w.cell? ⟨g, 1, none⟩ = some (.int .i64 0) := by rw [cell_of_row w g 1 _ _ _ hb]; rfl
    have h2 : w.frozen? ⟨g, 1, none⟩ = false := by simp [World.frozen?, hb]
    have HB := Lib.hid hb
    clear hb
    go_enter Try.func27, Try.ntmps27
    go_wp2_with (go_at_call 28; refine HE.out.mono ?_; rintro e w1 ⟨rfl, rfl⟩)
    go_end0
    refine ⟨rfl, ⟨v, ?_, hv.grown (grown_set _ _ _ _) ?_, hl⟩, grown_set _ _ _ _⟩
    · rw [row_set HB.out]; rfl
    · intro b hb e
      have := hl b hb
      injection e
      omega
  · have hx1 : (x == 0) = false := by simpa using hx
    clear hb
    go_enter Try.func27, Try.ntmps27
    go_wp2_with (go_at_call 28; refine HE.out.mono ?_; rintro e w1 ⟨rfl, rfl⟩)
    go_end0
    refine ⟨rfl, ?_, grown_refl _ _⟩
    have : failOf x y = x := by simp [failOf, hx]
    rw [this]
    exact HR.out

def endOf (l : List UInt8) (x : Int) : Int := if x = 0 ∧ l ≠ [] then 5 else x

set_option maxHeartbeats 400000 in
theorem end_nil (w : World) :
    Calls Try.prog 24 #[.pointer none] w fun e w' => e = .returned (.int .i64 2) ∧ w = w' := by
  go_enter Try.func24, Try.ntmps24
  go_wp2_with (first | (go_at_call 26; refine (left_nil _).mono ?_; rintro e w1 ⟨rfl, rfl⟩) | (go_at_call 28; refine (err_nil _).mono ?_; rintro e w1 ⟨rfl, rfl⟩))
  go_ret
  exact ⟨rfl, rfl⟩

set_option maxHeartbeats 400000 in
theorem end_at (g : Nat) (l : List UInt8) (x : Int) (w : World) (h : Rdr w g l x) :
    Calls Try.prog 24 #[.pointer (some ⟨g, 0, none⟩)] w fun e w' => e = .returned (.int .i64 (endOf l x)) ∧ w = w' := by
  have HE := Lib.hid (err_at g l x w h)
  have HL := Lib.hid (left_at g l x w h)
  clear h
  by_cases hx : leftOf l x = 0
  · have he : endOf l x = x := by
      unfold leftOf at hx
      unfold endOf
      by_cases h0 : x = 0
      · rw [if_pos h0] at hx
        rw [if_neg]
        rintro ⟨_, h⟩
        exact h (List.length_eq_zero_iff.1 hx)
      · rw [if_neg]
        exact fun h => h0 h.1
    rw [he]
    clear he
    rw [hx] at HL
    clear hx
    go_enter Try.func24, Try.ntmps24
    go_wp2_with (first | (go_at_call 26; refine HL.out.mono ?_; rintro e w1 ⟨rfl, rfl⟩) | (go_at_call 28; refine HE.out.mono ?_; rintro e w1 ⟨rfl, rfl⟩))
    go_ret
    exact ⟨rfl, rfl⟩
  · have he : endOf l x = 5 := by
      unfold leftOf at hx
      unfold endOf
      by_cases h0 : x = 0
      · rw [if_pos h0] at hx
        rw [if_pos ⟨h0, fun h => hx (by rw [h]; rfl)⟩]
      · rw [if_neg h0] at hx
        exact absurd rfl hx
    rw [he]
    clear he
    have hx1 : 0 < leftOf l x := by omega
    generalize leftOf l x = k at *
    go_enter Try.func24, Try.ntmps24
    go_wp2_with (go_at_call 26; refine HL.out.mono ?_; rintro e w1 ⟨rfl, rfl⟩)
    go_ret
    exact ⟨rfl, rfl⟩
end Go.Proofs.Ytldambmhclgpoaa
