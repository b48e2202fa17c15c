/-
  stream.word and stream.putWord over this program: a word out of four bytes, and into them.
-/
import Derived.Test.YtjcbdplbekecjaaCommon
import Derived.Test.YtjcbdplbekecjaaStrQuarter
import Derived.Test.YtjcbdplbekecjaaRowOps
import Derived.BigRegion
import Derived.BigQuiet
namespace Go.Proofs.Ytjcbdplbekecjaa
open Go.RowKit

def wordV (x : W32) : Value := .int .u32 (x.toNat : Int)
def wordsV (l : List W32) : List Value := l.map wordV
theorem wordsV_len (l : List W32) : (wordsV l).length = l.length := by simp [wordsV]
theorem wordsV_one (l : List W32) : ∀ x ∈ wordsV l, x.oneCell' = true := by
  intro x hx
  obtain ⟨c, _, rfl⟩ := List.mem_map.1 hx
  rfl
theorem wordsV_set (l : List W32) (k : Nat) (x : W32) : (wordsV l).set k (wordV x) = wordsV (l.set k x) := by simp [wordsV, List.map_set]
theorem wordsV_at (l : List W32) (k : Nat) (x : W32) (h : l[k]? = some x) : (wordsV l)[k]? = some (.int .u32 (x.toNat : Int)) := by simp [wordsV, wordV, h]
theorem wordsV_getD (l : List W32) (k : Nat) (h : k < l.length) : (wordsV l)[k]? = some (.int .u32 ((l.getD k 0).toNat : Int)) := by simp [wordsV, wordV, List.getElem?_eq_getElem h]
/-- A call that answers this value and turns nothing old. -/
theorem or4 (b : List UInt8) (k : Nat) : bits .or .u32 (bits .or .u32 (bits .or .u32 ((b.getD k 0).toNat : Int) (((b.getD (k + 1) 0).toNat : Int) * 256)) (((b.getD (k + 2) 0).toNat : Int) * 65536)) (((b.getD (k + 3) 0).toNat : Int) * 16777216) = ((le4 b k).toNat : Int) := by
  have b0 := UInt8.toNat_lt (b.getD k 0)
  have b1 := UInt8.toNat_lt (b.getD (k + 1) 0)
  have b2 := UInt8.toNat_lt (b.getD (k + 2) 0)
  have b3 := UInt8.toNat_lt (b.getD (k + 3) 0)
  rw [le4_nat]
  unfold le4N
  generalize (b.getD k 0).toNat = y0 at *
  generalize (b.getD (k + 1) 0).toNat = y1 at *
  generalize (b.getD (k + 2) 0).toNat = y2 at *
  generalize (b.getD (k + 3) 0).toNat = y3 at *
  have e1 : (y1 : Int) * 256 = ((y1 * 256 : Nat) : Int) := by omega
  have e2 : (y2 : Int) * 65536 = ((y2 * 65536 : Nat) : Int) := by omega
  have e3 : (y3 : Int) * 16777216 = ((y3 * 16777216 : Nat) : Int) := by omega
  have o1 : y0 ||| y1 * 256 = y0 + y1 * 256 := by
    have := Nat.two_pow_add_eq_or_of_lt (i := 8) (b := y0) (by omega) y1
    rw [show 2 ^ 8 * y1 = y1 * 256 by omega] at this
    rw [Nat.or_comm, ← this, Nat.add_comm]
  have o2 : (y0 + y1 * 256) ||| y2 * 65536 = y0 + y1 * 256 + y2 * 65536 := by
    have := Nat.two_pow_add_eq_or_of_lt (i := 16) (b := y0 + y1 * 256) (by omega) y2
    rw [show 2 ^ 16 * y2 = y2 * 65536 by omega] at this
    rw [Nat.or_comm, ← this, Nat.add_comm]
  have o3 : (y0 + y1 * 256 + y2 * 65536) ||| y3 * 16777216 = y0 + y1 * 256 + y2 * 65536 + y3 * 16777216 := by
    have := Nat.two_pow_add_eq_or_of_lt (i := 24) (b := y0 + y1 * 256 + y2 * 65536) (by omega) y3
    rw [show 2 ^ 24 * y3 = y3 * 16777216 by omega] at this
    rw [Nat.or_comm, ← this, Nat.add_comm]
  rw [e1, e2, e3, u32_or_nat _ _ (by omega) (by omega), o1, u32_or_nat _ _ (by omega) (by omega), o2, u32_or_nat _ _ (by omega) (by omega), o3]

set_option maxHeartbeats 2000000 in
theorem word_any (b : List UInt8) (g o n c : Nat) (t : TypeId) (w : World) (hr : Row w g t (bytesV b)) (ho : o + 4 ≤ b.length) (hn : 4 ≤ n) :
    Calls Try.prog 55 #[.slice (some ⟨g, o, none⟩) n c] w (Val (wordV (le4 b o)) w) := by
  have c0 : w.cell? ⟨g, o, none⟩ = some (.int .u8 ((b.getD o 0).toNat : Int)) := hr.cell (bytesV_at b o (by omega))
  have c1 : w.cell? ⟨g, o + 1, none⟩ = some (.int .u8 ((b.getD (o + 1) 0).toNat : Int)) := hr.cell (bytesV_at b (o + 1) (by omega))
  have c2 : w.cell? ⟨g, o + 2, none⟩ = some (.int .u8 ((b.getD (o + 2) 0).toNat : Int)) := hr.cell (bytesV_at b (o + 2) (by omega))
  have c3 : w.cell? ⟨g, o + 3, none⟩ = some (.int .u8 ((b.getD (o + 3) 0).toNat : Int)) := hr.cell (bytesV_at b (o + 3) (by omega))
  have n0 : (0 : Int) < (n : Int) := by omega
  have n1 : (1 : Int) < (n : Int) := by omega
  have n2 : (2 : Int) < (n : Int) := by omega
  have n3 : (3 : Int) < (n : Int) := by omega
  have m0 : 0 < n := by omega
  have HO := Lib.hid (or4 b o)
  have b0 := UInt8.toNat_lt (b.getD o 0)
  have b1 := UInt8.toNat_lt (b.getD (o + 1) 0)
  have b2 := UInt8.toNat_lt (b.getD (o + 2) 0)
  have b3 := UInt8.toNat_lt (b.getD (o + 3) 0)
  unfold wordV
  generalize (b.getD o 0).toNat = y0 at *
  generalize (b.getD (o + 1) 0).toNat = y1 at *
  generalize (b.getD (o + 2) 0).toNat = y2 at *
  generalize (b.getD (o + 3) 0).toNat = y3 at *
  clear hr ho hn
  go_enter Try.func55, Try.ntmps55
  go_wp2
  go_quiet (fail)
  rw [HO.out]
  go_wp2
  go_ret
  exact ⟨rfl, grown_drewN (grown_refl _ _) _⟩

theorem tel1_bytes (x : W32) : bytesV (tel1 x) = [.int .u8 ((x.toNat : Int) % 256), .int .u8 ((x.toNat : Int) / 256 % 256), .int .u8 ((x.toNat : Int) / 65536 % 256), .int .u8 ((x.toNat : Int) / 16777216)] := by
  have hx := x.isLt
  have h : ((x.toNat / 16777216 % 256 : Nat) : Int) = (x.toNat : Int) / 16777216 := by omega
  simp only [bytesV, byteV, tel1, List.map_cons, List.map_nil, UInt8.toNat_ofNat', h]
  simp
theorem cell_set_other (w : World) (g i j : Nat) (v : Value) (h : i ≠ j) : (w.setCell ⟨g, i, none⟩ v).cell? ⟨g, j, none⟩ = w.cell? ⟨g, j, none⟩ := by
  apply World.cell?_setCell_other
  exact fun e => h (by injection e)
/-- What putWord leaves: the four cells from o on are the word's bytes. -/
def Put4 (g o : Nat) (t : TypeId) (cs : List Value) (x : W32) (w : World) (e : Ending) (w' : World) : Prop :=
  e = .returned (.tuple #[]) ∧ w.grownBy w' (some g) ∧ Row w' g t ((((cs.set o (.int .u8 ((x.toNat : Int) % 256))).set (o + 1) (.int .u8 ((x.toNat : Int) / 256 % 256))).set (o + 2) (.int .u8 ((x.toNat : Int) / 65536 % 256))).set (o + 3) (.int .u8 ((x.toNat : Int) / 16777216)))

set_option maxHeartbeats 2000000 in
theorem putWord_any (x : W32) (cs : List Value) (g o n c : Nat) (t : TypeId) (w : World) (hr : Row w g t cs) (ho : o + 4 ≤ cs.length) (hn : 4 ≤ n) :
    Calls Try.prog 39 #[.slice (some ⟨g, o, none⟩) n c, .int .u32 (x.toNat : Int)] w (Put4 g o t cs x w) := by
  obtain ⟨u0, h0⟩ : ∃ u, cs[o]? = some u := ⟨_, List.getElem?_eq_getElem (by omega)⟩
  obtain ⟨u1, h1⟩ : ∃ u, cs[o + 1]? = some u := ⟨_, List.getElem?_eq_getElem (by omega)⟩
  obtain ⟨u2, h2⟩ : ∃ u, cs[o + 2]? = some u := ⟨_, List.getElem?_eq_getElem (by omega)⟩
  obtain ⟨u3, h3⟩ : ∃ u, cs[o + 3]? = some u := ⟨_, List.getElem?_eq_getElem (by omega)⟩
  have c0 := hr.cell h0
  have c1 := hr.cell h1
  have c2 := hr.cell h2
  have c3 := hr.cell h3
  have d1 : ∀ v, (w.setCell ⟨g, o, none⟩ v).cell? ⟨g, o + 1, none⟩ = some u1 := fun v => by
    rw [cell_set_other _ _ _ _ _ (by omega), c1]
  have d2 : ∀ v u, ((w.setCell ⟨g, o, none⟩ v).setCell ⟨g, o + 1, none⟩ u).cell? ⟨g, o + 2, none⟩ = some u2 := fun v u => by
    rw [cell_set_other _ _ _ _ _ (by omega), cell_set_other _ _ _ _ _ (by omega), c2]
  have d3 : ∀ v u t, (((w.setCell ⟨g, o, none⟩ v).setCell ⟨g, o + 1, none⟩ u).setCell ⟨g, o + 2, none⟩ t).cell? ⟨g, o + 3, none⟩ = some u3 := fun v u t => by
    rw [cell_set_other _ _ _ _ _ (by omega), cell_set_other _ _ _ _ _ (by omega), cell_set_other _ _ _ _ _ (by omega), c3]
  have f0 := hr.frozen o
  have f1 := hr.frozen (o + 1)
  have f2 := hr.frozen (o + 2)
  have f3 := hr.frozen (o + 3)
  have n0 : (0 : Int) < (n : Int) := by omega
  have n1 : (1 : Int) < (n : Int) := by omega
  have n2 : (2 : Int) < (n : Int) := by omega
  have n3 : (3 : Int) < (n : Int) := by omega
  have m0 : 0 < n := by omega
  have HR := Lib.hid hr
  have hx := x.isLt
  clear hr ho hn h0 h1 h2 h3
  go_enter Try.func39, Try.ntmps39
  go_wp2
  refine bodyPost_end (results_none rfl _ _ _) rfl ?_
  exact ⟨rfl, ((grown_set w g o _).trans (grown_set _ g (o + 1) _)).trans ((grown_set _ g (o + 2) _).trans (grown_set _ g (o + 3) _)), (((HR.out.set o _).set (o + 1) _).set (o + 2) _).set (o + 3) _⟩
end Go.Proofs.Ytjcbdplbekecjaa
