/-
  poly.limbPlace and poly.word over this program.
-/
import Derived.Test.YtjcbdplbekecjaaCommon
import Derived.Test.YtjcbdplbekecjaaPolL
import Derived.Test.YtjcbdplbekecjaaRowOps
import Derived.Test.YtjcbdplbekecjaaAppBytes
import Derived.BigRegion
import Derived.BigQuiet
namespace Go.Proofs.Ytjcbdplbekecjaa
open Go.RowKit

def limbV (x : Nat) : Value := .int .u64 (x : Int)
def limbsV (l : List Nat) : List Value := l.map limbV
theorem limbsV_len (l : List Nat) : (limbsV l).length = l.length := by simp [limbsV]
theorem limbsV_one (l : List Nat) : ∀ x ∈ limbsV l, x.oneCell' = true := by
  intro x hx
  obtain ⟨c, _, rfl⟩ := List.mem_map.1 hx
  rfl
theorem limbsV_set (l : List Nat) (k x : Nat) : (limbsV l).set k (.int .u64 (x : Int)) = limbsV (l.set k x) := by simp [limbsV, limbV, List.map_set]
theorem limbsV_at (l : List Nat) (k : Nat) (h : k < l.length) : (limbsV l)[k]? = some (.int .u64 ((l.getD k 0 : Nat) : Int)) := by simp [limbsV, limbV, List.getElem?_eq_getElem h]
set_option maxHeartbeats 1000000 in
theorem limbPlace_any (i : Nat) (hi : i < 5) (w : World) : Calls Try.prog 60 #[.int .i64 (i : Int)] w (Val (.tuple #[.int .i64 ((26 * i / 8 : Nat) : Int), .int .i64 ((26 * i % 8 : Nat) : Int)]) w) := by
  have h1 : IntKind.i64.wrap ((i : Int) * 26) = ((26 * i : Nat) : Int) := by rw [IntKind.wrap_i64]; omega
  go_enter Try.func60, Try.ntmps60
  go_wp2
  refine bodyPost_ret (v := .tuple #[.int .i64 ((26 * i / 8 : Nat) : Int), .int .i64 ((26 * i % 8 : Nat) : Int)]) ?_ rfl ⟨rfl, grown_refl _ _⟩
  simp [results, Try.results60, go_sem]

theorem por4 (y0 y1 y2 y3 : Nat) (b0 : y0 < 256) (b1 : y1 < 256) (b2 : y2 < 256) (b3 : y3 < 256) :
    bits .or .u64 (bits .or .u64 (bits .or .u64 (y0 : Int) ((y1 : Int) * 256)) ((y2 : Int) * 65536)) ((y3 : Int) * 16777216) = ((y0 + y1 * 256 + y2 * 65536 + y3 * 16777216 : Nat) : Int) := by
  have e1 : (y1 : Int) * 256 = ((y1 * 256 : Nat) : Int) := by omega
  have e2 : (y2 : Int) * 65536 = ((y2 * 65536 : Nat) : Int) := by omega
  have e3 : (y3 : Int) * 16777216 = ((y3 * 16777216 : Nat) : Int) := by omega
  have o1 : y0 ||| y1 * 256 = y0 + y1 * 256 := by
    have := Nat.two_pow_add_eq_or_of_lt (i := 8) (b := y0) (by omega) y1
    rw [show 2 ^ 8 * y1 = y1 * 256 by omega] at this
    rw [Nat.or_comm, ← this, Nat.add_comm]
  have o2 : (y0 + y1 * 256) ||| y2 * 65536 = y0 + y1 * 256 + y2 * 65536 := by
    have := Nat.two_pow_add_eq_or_of_lt (i := 16) (b := y0 + y1 * 256) (by omega) y2
    rw [show 2 ^ 16 * y2 = y2 * 65536 by omega] at this
    rw [Nat.or_comm, ← this, Nat.add_comm]
  have o3 : (y0 + y1 * 256 + y2 * 65536) ||| y3 * 16777216 = y0 + y1 * 256 + y2 * 65536 + y3 * 16777216 := by
    have := Nat.two_pow_add_eq_or_of_lt (i := 24) (b := y0 + y1 * 256 + y2 * 65536) (by omega) y3
    rw [show 2 ^ 24 * y3 = y3 * 16777216 by omega] at this
    rw [Nat.or_comm, ← this, Nat.add_comm]
  rw [e1, e2, e3, u64_or_nat _ _ (by omega) (by omega), o1, u64_or_nat _ _ (by omega) (by omega), o2, u64_or_nat _ _ (by omega) (by omega), o3]

set_option maxHeartbeats 2000000 in
theorem pword_any (b : List UInt8) (g o n c : Nat) (t : TypeId) (w : World) (hr : Row w g t (bytesV b)) (ho : o + 4 ≤ b.length) (hn : 4 ≤ n) :
    Calls Try.prog 61 #[.slice (some ⟨g, o, none⟩) n c] w (Val (limbV (le b / 256 ^ o % 4294967296)) w) := by
  have c0 : w.cell? ⟨g, o, none⟩ = some (.int .u8 ((b.getD o 0).toNat : Int)) := hr.cell (bytesV_at b o (by omega))
  have c1 : w.cell? ⟨g, o + 1, none⟩ = some (.int .u8 ((b.getD (o + 1) 0).toNat : Int)) := hr.cell (bytesV_at b (o + 1) (by omega))
  have c2 : w.cell? ⟨g, o + 2, none⟩ = some (.int .u8 ((b.getD (o + 2) 0).toNat : Int)) := hr.cell (bytesV_at b (o + 2) (by omega))
  have c3 : w.cell? ⟨g, o + 3, none⟩ = some (.int .u8 ((b.getD (o + 3) 0).toNat : Int)) := hr.cell (bytesV_at b (o + 3) (by omega))
  have n0 : (0 : Int) < (n : Int) := by omega
  have n1 : (1 : Int) < (n : Int) := by omega
  have n2 : (2 : Int) < (n : Int) := by omega
  have n3 : (3 : Int) < (n : Int) := by omega
  have m0 : 0 < n := by omega
  have b0 := UInt8.toNat_lt (b.getD o 0)
  have b1 := UInt8.toNat_lt (b.getD (o + 1) 0)
  have b2 := UInt8.toNat_lt (b.getD (o + 2) 0)
  have b3 := UInt8.toNat_lt (b.getD (o + 3) 0)
  have HO := Lib.hid (por4 _ _ _ _ b0 b1 b2 b3)
  rw [← le_word b o ho]
  unfold limbV
  generalize (b.getD o 0).toNat = y0 at *
  generalize (b.getD (o + 1) 0).toNat = y1 at *
  generalize (b.getD (o + 2) 0).toNat = y2 at *
  generalize (b.getD (o + 3) 0).toNat = y3 at *
  clear hr ho hn
  go_enter Try.func61, Try.ntmps61
  go_wp2
  go_quiet (fail)
  rw [HO.out]
  go_wp2
  go_ret
  exact ⟨rfl, grown_drewN (grown_refl _ _) _⟩
end Go.Proofs.Ytjcbdplbekecjaa
