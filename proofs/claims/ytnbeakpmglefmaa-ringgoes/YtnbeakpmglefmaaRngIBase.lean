/-
  ring's New, Len, Room, Many, place, At and Put over this program, of things of type int.
-/
import Derived.Test.YtnbeakpmglefmaaRngW
import Derived.Test.YtnbeakpmglefmaaChecked
import Derived.OwnWalk
import Derived.BigQuiet
import Derived.Laws.OwnMore
namespace Go.Proofs.Ytnbeakpmglefmaa.RingI
open Go.RowKit

def rowV (l : List Int) : List Value := l.map fun x => (Value.int .i64 (x))
theorem rowV_len (l : List Int) : (rowV l).length = l.length := by simp [rowV]
theorem rowV_one (l : List Int) : ∀ x ∈ rowV l, x.oneCell' = true := by
  intro x hx
  obtain ⟨c, _, rfl⟩ := List.mem_map.1 hx
  rfl
theorem rowV_at (l : List Int) (k : Nat) (x : Int) (h : l[k]? = some x) : (rowV l)[k]? = some (Value.int .i64 (x)) := by simp [rowV, h]
theorem infoT : ∃ i, Try.prog.info? 3 = some i ∧ i.zero = some (Value.int .i64 ((0 : Int))) ∧ i.size = 1 ∧ i.bytes = 8 := by
  have h : (Try.prog.info? 3).map (fun i => (i.zero, i.size, i.bytes)) = some (some (Value.int .i64 ((0 : Int))), 1, 8) := by kernel_rfl
  obtain ⟨i, hi, he⟩ := Option.map_eq_some_iff.1 h
  simp only [Prod.mk.injEq] at he
  exact ⟨i, hi, he.1, he.2.1, he.2.2⟩

/-- Block g is a ring with room for R, to which L was put, its things in the row vb. -/
def Ring (w : World) (g : Nat) (vb : Option Nat) (R : Nat) (L : List Int) : Prop :=
  ∃ v xs, Row w g 52 [v, .int .i64 (R : Int), .int .i64 (L.length : Int)] ∧ w.ownsRow 0 3 1 v xs.length (rowV xs) ∧ HeldIn R L xs ∧ v.ownBlock = vb ∧ vb ≠ some g

theorem own_kept {w w' : World} {v : Value} {n : Nat} {xs : List Value} {e : TypeId} (h : w.ownsRow 0 e 1 v n xs) (hk : ∀ b, v.ownBlock = some b → w'.heap[b]? = w.heap[b]?) : w'.ownsRow 0 e 1 v n xs := by
  refine ⟨h.1, ?_⟩
  rcases h.2 with hn | ⟨g, cap, cur, rfl, hb, hgg, rest⟩
  · exact .inl hn
  · exact .inr ⟨g, cap, cur, rfl, hb, (hk g rfl).trans hgg, rest⟩
theorem Ring.keep {w w' : World} {g : Nat} {vb : Option Nat} {R : Nat} {L : List Int} (h : Ring w g vb R L) (hg : w'.heap[g]? = w.heap[g]?) (hv : ∀ b, vb = some b → w'.heap[b]? = w.heap[b]?) : Ring w' g vb R L := by
  obtain ⟨v, xs, hrow, hown, hh, hvb, hne⟩ := h
  exact ⟨v, xs, hg.trans hrow, own_kept hown (fun b hb => hv b (hvb.symm.trans hb)), hh, hvb, hne⟩
theorem Ring.lt {w : World} {g : Nat} {vb : Option Nat} {R : Nat} {L : List Int} (h : Ring w g vb R L) : g < w.heap.size := by
  obtain ⟨v, xs, hrow, _⟩ := h
  exact hrow.lt
theorem Ring.row_lt {w : World} {g : Nat} {vb : Option Nat} {R : Nat} {L : List Int} (h : Ring w g vb R L) : ∀ b, vb = some b → b < w.heap.size := by
  obtain ⟨v, xs, hrow, hown, hh, hvb, hne⟩ := h
  rintro b rfl
  rcases hown.2 with ⟨rfl, _⟩ | ⟨g', cap, cur, rfl, hb, hgg, _⟩
  · cases hvb
  · cases hvb
    exact (Array.getElem?_eq_some_iff.1 hgg).1
theorem Ring.grown0 {w w' : World} {g : Nat} {vb : Option Nat} {R : Nat} {L : List Int} (h : Ring w g vb R L) (hg : w.grownBy w' none) : Ring w' g vb R L :=
  h.keep (hg.block g h.lt (by simp)) (fun b hb => hg.block b (h.row_lt b hb) (by simp))
theorem Ring.drewN {w : World} {g : Nat} {vb : Option Nat} {R : Nat} {L : List Int} (h : Ring w g vb R L) (n : Nat) : Ring (w.drewN n) g vb R L := h
/-- Another ring, untouched. -/
theorem Ring.went {W0 W : World} {g c : Nat} {v0 v1 vc : Option Nat} {R : Nat} {L : List Int} (h : Ring W0 c vc R L) (k : Went W0 g v0 W v1) (h1 : c ≠ g ∧ some c ≠ v0) (h2 : ∀ b, vc = some b → b ≠ g ∧ some b ≠ v0) : Ring W c vc R L :=
  h.keep (k.block c h.lt h1.1 h1.2) (fun b hb => k.block b (h.row_lt b hb) (h2 b hb).1 (h2 b hb).2)

/-- What New answers. -/
def NewOut (w : World) (r : Int) (e : Ending) (w' : World) : Prop :=
  (∃ R g : Nat, r = R ∧ R ≤ 65536 ∧ e = .returned (.pointer (some ⟨g, 0, none⟩)) ∧ Ring w' g none R [] ∧ w.heap.size ≤ g ∧ w.grownBy w' none) ∨
  ((r < 0 ∨ 65536 < r) ∧ e = .returned (.pointer none) ∧ w' = w)
set_option maxHeartbeats 400000 in
theorem new_any (r : Int) (w : World) : Calls Try.prog 10 #[.int .i64 r] w (NewOut w r) := by
  by_cases h0 : r < 0
  · go_enter Try.func10, Try.ntmps10
    go_wp2
    go_ret
    exact .inr ⟨.inl h0, rfl, rfl⟩
  · have hd0 : decide (r < 0) = false := by simp; omega
    by_cases h1 : 65536 < r
    · clear h0
      go_enter Try.func10, Try.ntmps10
      go_wp2
      go_ret
      exact .inr ⟨.inr h1, rfl, rfl⟩
    · have hd1 : decide (65536 < r) = false := by simp; omega
      obtain ⟨R, rfl⟩ : ∃ R : Nat, r = R := ⟨r.toNat, by omega⟩
      have HR := Lib.hid (show R ≤ 65536 by omega)
      clear h0 h1
      go_enter Try.func10, Try.ntmps10
      go_wp2
      go_ret
      exact .inl ⟨R, w.heap.size, rfl, HR.out, rfl, ⟨_, [], Row.new w _ _, ⟨rfl, .inl ⟨rfl, rfl⟩⟩, HeldIn.nil R, rfl, by simp⟩, Nat.le_refl _, grown_alloc (grown_refl _ _) _⟩

set_option maxHeartbeats 400000 in
theorem len_nil (w : World) : Calls Try.prog 13 #[.pointer none] w (Saw (.int .i64 0) w) := by
  go_enter Try.func13, Try.ntmps13
  go_wp2
  go_ret
  exact ⟨rfl, 0, rfl⟩
set_option maxHeartbeats 400000 in
theorem len_at (g : Nat) (vb : Option Nat) (R : Nat) (L : List Int) (w : World) (h : Ring w g vb R L) : Calls Try.prog 13 #[.pointer (some ⟨g, 0, none⟩)] w (Saw (.int .i64 ((min L.length R : Nat) : Int)) w) := by
  obtain ⟨v, xs, hrow, hown, hh, hvb, hne⟩ := h
  obtain ⟨A, c, rfl⟩ := (Rd.of_own hown).form
  rw [rowV_len, hh.1] at *
  have h0 := hrow.cell (j := 0) rfl
  clear hrow hown hh hne hvb
  generalize min L.length R = m at *
  go_enter Try.func13, Try.ntmps13
  go_wp2
  go_ret
  exact ⟨rfl, 0, rfl⟩

set_option maxHeartbeats 400000 in
theorem room_nil (w : World) : Calls Try.prog 17 #[.pointer none] w (Saw (.int .i64 0) w) := by
  go_enter Try.func17, Try.ntmps17
  go_wp2
  go_ret
  exact ⟨rfl, 0, rfl⟩
set_option maxHeartbeats 400000 in
theorem room_at (g : Nat) (vb : Option Nat) (R : Nat) (L : List Int) (w : World) (h : Ring w g vb R L) : Calls Try.prog 17 #[.pointer (some ⟨g, 0, none⟩)] w (Saw (.int .i64 (R : Int)) w) := by
  obtain ⟨v, xs, hrow, hown, hh, hvb, hne⟩ := h
  have h0 := hrow.cell (j := 1) rfl
  clear hrow hown hh hne hvb
  generalize R = m at *
  go_enter Try.func17, Try.ntmps17
  go_wp2
  go_ret
  exact ⟨rfl, 0, rfl⟩

set_option maxHeartbeats 400000 in
theorem many_nil (w : World) : Calls Try.prog 14 #[.pointer none] w (Saw (.int .i64 0) w) := by
  go_enter Try.func14, Try.ntmps14
  go_wp2
  go_ret
  exact ⟨rfl, 0, rfl⟩
set_option maxHeartbeats 400000 in
theorem many_at (g : Nat) (vb : Option Nat) (R : Nat) (L : List Int) (w : World) (h : Ring w g vb R L) : Calls Try.prog 14 #[.pointer (some ⟨g, 0, none⟩)] w (Saw (.int .i64 (L.length : Int)) w) := by
  obtain ⟨v, xs, hrow, hown, hh, hvb, hne⟩ := h
  have h0 := hrow.cell (j := 2) rfl
  clear hrow hown hh hne hvb
  generalize L.length = m at *
  go_enter Try.func14, Try.ntmps14
  go_wp2
  go_ret
  exact ⟨rfl, 0, rfl⟩

set_option maxHeartbeats 1000000 in
theorem place_at (g : Nat) (v : Value) (R M k : Nat) (w : World) (hrow : Row w g 52 [v, .int .i64 (R : Int), .int .i64 (M : Int)]) (hR : 0 < R) (hR2 : R ≤ 65536) (hM : M ≤ 1000000) (hk : k < M) :
    Calls Try.prog 27 #[.pointer (some ⟨g, 0, none⟩), .int .i64 (k : Int)] w (Saw (.int .i64 (((M - 1 - k) % R : Nat) : Int)) w) := by
  have h1 := hrow.cell (j := 1) rfl
  have h2 := hrow.cell (j := 2) rfl
  have HE := Lib.hid (show ((M : Int) - 1 - (k : Int)) % (R : Int) = (((M - 1 - k) % R : Nat) : Int) by
    rw [show (M : Int) - 1 - (k : Int) = ((M - 1 - k : Nat) : Int) by omega]
    exact (Int.natCast_emod _ _).symm)
  have hlt : (M - 1 - k) % R < R := Nat.mod_lt _ hR
  have hne : ((R : Int) == 0) = false := by simp; omega
  clear hrow
  go_enter Try.func27, Try.ntmps27
  go_wp2
  go_quiet (fail)
  go_wp2
  go_ret
  exact ⟨by rw [HE.out]; rfl, _, rfl⟩
end Go.Proofs.Ytnbeakpmglefmaa.RingI
