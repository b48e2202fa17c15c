/-
  Writers, readers and chances that are not there, over this program.
-/
import Derived.Test.YtohndlfekecfoaaCodAwake
namespace Go.Proofs.Ytohndlfekecfoaa
set_option maxRecDepth 1000000
open Go.RowKit

set_option maxHeartbeats 400000 in
theorem bit_nil (p : Addr) (q : Int) (w : World) : Calls Try.prog 8 #[.pointer none, .pointer (some p), .int .i64 q] w (SameW (.tuple #[]) w) := by
  have HB := Lib.hid (begun_nil w)
  go_enter Try.func8, Try.ntmps8
  go_wp2_with fail
  refine HB.out.mono ?_
  rintro e w1 ⟨rfl, hw1⟩
  obtain rfl := hw1.symm
  go_wp2
  refine bodyPost_ret (results_none rfl _ _ _) rfl ?_
  exact ⟨rfl, rfl⟩
set_option maxHeartbeats 400000 in
theorem bit_none (x : Option Addr) (q : Int) (w : World) : Calls Try.prog 8 #[.pointer x, .pointer none, .int .i64 q] w (SameW (.tuple #[]) w) := by
  go_enter Try.func8, Try.ntmps8
  go_wp2
  refine bodyPost_ret (results_none rfl _ _ _) rfl ?_
  exact ⟨rfl, rfl⟩
set_option maxHeartbeats 400000 in
theorem bit_done (g : Nat) (vb : Option Nat) (s : Cst) (p : Addr) (q : Int) (w : World) (h : Wt w g vb s) (hs : s.width = 0) : Calls Try.prog 8 #[.pointer (some ⟨g, 0, none⟩), .pointer (some p), .int .i64 q] w (SameW (.tuple #[]) w) := by
  have HB := Lib.hid (begun_at g vb s w h)
  rw [hs] at HB
  clear h hs
  go_enter Try.func8, Try.ntmps8
  go_wp2_with fail
  refine HB.out.mono ?_
  rintro e w1 ⟨rfl, hw1⟩
  obtain rfl := hw1.symm
  go_wp2
  refine bodyPost_ret (results_none rfl _ _ _) rfl ?_
  exact ⟨rfl, rfl⟩
set_option maxHeartbeats 400000 in
theorem even_nil (n q : Int) (w : World) : Calls Try.prog 11 #[.pointer none, .int .i64 n, .int .i64 q] w (SameW (.tuple #[]) w) := by
  have HB := Lib.hid (begun_nil w)
  go_enter Try.func11, Try.ntmps11
  go_wp2_with fail
  refine HB.out.mono ?_
  rintro e w1 ⟨rfl, hw1⟩
  obtain rfl := hw1.symm
  go_wp2
  refine bodyPost_ret (results_none rfl _ _ _) rfl ?_
  exact ⟨rfl, rfl⟩
set_option maxHeartbeats 400000 in
theorem even_done (g : Nat) (vb : Option Nat) (s : Cst) (n q : Int) (w : World) (h : Wt w g vb s) (hs : s.width = 0) : Calls Try.prog 11 #[.pointer (some ⟨g, 0, none⟩), .int .i64 n, .int .i64 q] w (SameW (.tuple #[]) w) := by
  have HB := Lib.hid (begun_at g vb s w h)
  rw [hs] at HB
  clear h hs
  go_enter Try.func11, Try.ntmps11
  go_wp2_with fail
  refine HB.out.mono ?_
  rintro e w1 ⟨rfl, hw1⟩
  obtain rfl := hw1.symm
  go_wp2
  refine bodyPost_ret (results_none rfl _ _ _) rfl ?_
  exact ⟨rfl, rfl⟩
/-- A tree that may not be: of too few chances, or of another number of bits. -/
def NoTree (m : Nat) (q : Int) : Prop := q < 0 ∨ 16 < q ∨ ∃ B : Nat, q = B ∧ B ≤ 16 ∧ m < 2 ^ B
theorem noTree_none (q : Int) : NoTree 0 q := by
  by_cases h0 : q < 0
  · exact .inl h0
  · by_cases h1 : 16 < q
    · exact .inr (.inl h1)
    · exact .inr (.inr ⟨q.toNat, by omega, by omega, Nat.pow_pos (by decide)⟩)
theorem isTree_not (A : Option Addr) (n c : Nat) (q : Int) (h : NoTree n q) (w : World) : Calls Try.prog 27 #[.slice A n c, .int .i64 q] w (SameW (.bool false) w) := by
  rcases h with h | h | ⟨B, rfl, h1, h2⟩
  · exact isTree_no A n c q (.inl h) w
  · exact isTree_no A n c q (.inr h) w
  · exact isTree_few A n c B h1 h2 w
set_option maxHeartbeats 400000 in
theorem tree_not (x : Option Addr) (A : Option Addr) (m c : Nat) (n q : Int) (h : NoTree m q) (w : World) : Calls Try.prog 13 #[.pointer x, .slice A m c, .int .i64 n, .int .i64 q] w (SameW (.tuple #[]) w) := by
  have HB := Lib.hid (isTree_not A m c q h w)
  clear h
  go_enter Try.func13, Try.ntmps13
  go_wp2_with fail
  refine HB.out.mono ?_
  rintro e w1 ⟨rfl, hw1⟩
  obtain rfl := hw1.symm
  go_wp2
  refine bodyPost_ret (results_none rfl _ _ _) rfl ?_
  exact ⟨rfl, rfl⟩
set_option maxHeartbeats 400000 in
theorem end_nil (w : World) : Calls Try.prog 15 #[.pointer none] w (SameW (.slice none 0 0) w) := by
  go_enter Try.func15, Try.ntmps15
  go_wp2
  go_ret
  exact ⟨rfl, rfl⟩
set_option maxHeartbeats 400000 in
theorem rbit_nil (p : Addr) (w : World) : Calls Try.prog 18 #[.pointer none, .pointer (some p)] w (SameW (.int .i64 0) w) := by
  have HB := Lib.hid (opened_nil w)
  go_enter Try.func18, Try.ntmps18
  go_wp2_with fail
  refine HB.out.mono ?_
  rintro e w1 ⟨rfl, hw1⟩
  obtain rfl := hw1.symm
  go_wp2
  go_ret
  exact ⟨rfl, rfl⟩
end Go.Proofs.Ytohndlfekecfoaa
