/-
  digest.down over this program: a word, turned.
-/
import Derived.Test.YtmhcfbfdbminnaaDoorBase
import Derived.Test.YtmhcfbfdbminnaaDoorSha
import Derived.Test.YtmhcfbfdbminnaaDoorChecked
import Derived.Laws.BitsAllLaws
namespace Go.Proofs.YtmhcfbfdbminnaaDoor
open Go.RowKit

/-- A call that answers a word and turns nothing. -/
def U32 (n : BitVec 32) (w : World) (e : Ending) (w' : World) : Prop := e = .returned (.int .u32 (n.toNat : Int)) ∧ w' = w

theorem rr_bits (x : W32) (n : Nat) (p q : Nat) (hp : 2 ^ (32 - n) = p) (hq : 2 ^ n = q) : bits .or .u32 ((x.toNat : Int) * (p : Int) % 4294967296) ((x.toNat : Int) / (q : Int)) = ((rr n x).toNat : Int) := by
  have hb := x.isLt
  have h1 : ((x.toNat : Int) * (p : Int) % 4294967296) = ((x.toNat * p % 4294967296 : Nat) : Int) := by simp only [Int.natCast_emod, Int.natCast_mul]; rfl
  have h2 : ((x.toNat : Int) / (q : Int)) = ((x.toNat / q : Nat) : Int) := by simp only [Int.natCast_ediv]
  have h3 : x.toNat / q < 4294967296 := Nat.lt_of_le_of_lt (Nat.div_le_self _ _) hb
  rw [h1, h2, u32_or_nat _ _ (Nat.mod_lt _ (by decide)) h3]
  unfold rr
  rw [BitVec.toNat_or, BitVec.toNat_ushiftRight, BitVec.toNat_shiftLeft, Nat.shiftLeft_eq, Nat.shiftRight_eq_div_pow, hp, hq, Nat.or_comm]

set_option maxHeartbeats 400000 in
theorem rotate2 (x : W32) (w : World) :
    Calls Tryd.prog 46 #[.int .u32 (x.toNat : Int), .int .i64 (-2)] w (U32 (rr 2 x) w) := by
  have hb := x.isLt
  have ha : bits .and .u64 (IntKind.u64.wrap (-2)) 31 = 30 := by decide +kernel
  have HR := Lib.hid (rr_bits x 2 1073741824 4 (by decide) (by decide))
  generalize x.toNat = N at *
  go_enter Tryd.func46, Tryd.ntmps46
  go_wp2
  go_ret
  refine ⟨?_, rfl⟩
  rw [← HR.out]
  rfl
theorem down2 (x : W32) (w : World) :
    Calls Tryd.prog 45 #[.int .u32 (x.toNat : Int), .int .i64 2] w (U32 (rr 2 x) w) := by
  have HR := Lib.hid (rotate2 x w)
  go_enter Tryd.func45, Tryd.ntmps45
  go_wp2_with fail
  refine HR.out.mono ?_
  rintro e w1 ⟨rfl, rfl⟩
  go_wp2
  go_ret
  exact ⟨rfl, rfl⟩

set_option maxHeartbeats 400000 in
theorem rotate6 (x : W32) (w : World) :
    Calls Tryd.prog 46 #[.int .u32 (x.toNat : Int), .int .i64 (-6)] w (U32 (rr 6 x) w) := by
  have hb := x.isLt
  have ha : bits .and .u64 (IntKind.u64.wrap (-6)) 31 = 26 := by decide +kernel
  have HR := Lib.hid (rr_bits x 6 67108864 64 (by decide) (by decide))
  generalize x.toNat = N at *
  go_enter Tryd.func46, Tryd.ntmps46
  go_wp2
  go_ret
  refine ⟨?_, rfl⟩
  rw [← HR.out]
  rfl
theorem down6 (x : W32) (w : World) :
    Calls Tryd.prog 45 #[.int .u32 (x.toNat : Int), .int .i64 6] w (U32 (rr 6 x) w) := by
  have HR := Lib.hid (rotate6 x w)
  go_enter Tryd.func45, Tryd.ntmps45
  go_wp2_with fail
  refine HR.out.mono ?_
  rintro e w1 ⟨rfl, rfl⟩
  go_wp2
  go_ret
  exact ⟨rfl, rfl⟩

set_option maxHeartbeats 400000 in
theorem rotate7 (x : W32) (w : World) :
    Calls Tryd.prog 46 #[.int .u32 (x.toNat : Int), .int .i64 (-7)] w (U32 (rr 7 x) w) := by
  have hb := x.isLt
  have ha : bits .and .u64 (IntKind.u64.wrap (-7)) 31 = 25 := by decide +kernel
  have HR := Lib.hid (rr_bits x 7 33554432 128 (by decide) (by decide))
  generalize x.toNat = N at *
  go_enter Tryd.func46, Tryd.ntmps46
  go_wp2
  go_ret
  refine ⟨?_, rfl⟩
  rw [← HR.out]
  rfl
theorem down7 (x : W32) (w : World) :
    Calls Tryd.prog 45 #[.int .u32 (x.toNat : Int), .int .i64 7] w (U32 (rr 7 x) w) := by
  have HR := Lib.hid (rotate7 x w)
  go_enter Tryd.func45, Tryd.ntmps45
  go_wp2_with fail
  refine HR.out.mono ?_
  rintro e w1 ⟨rfl, rfl⟩
  go_wp2
  go_ret
  exact ⟨rfl, rfl⟩

set_option maxHeartbeats 400000 in
theorem rotate11 (x : W32) (w : World) :
    Calls Tryd.prog 46 #[.int .u32 (x.toNat : Int), .int .i64 (-11)] w (U32 (rr 11 x) w) := by
  have hb := x.isLt
  have ha : bits .and .u64 (IntKind.u64.wrap (-11)) 31 = 21 := by decide +kernel
  have HR := Lib.hid (rr_bits x 11 2097152 2048 (by decide) (by decide))
  generalize x.toNat = N at *
  go_enter Tryd.func46, Tryd.ntmps46
  go_wp2
  go_ret
  refine ⟨?_, rfl⟩
  rw [← HR.out]
  rfl
theorem down11 (x : W32) (w : World) :
    Calls Tryd.prog 45 #[.int .u32 (x.toNat : Int), .int .i64 11] w (U32 (rr 11 x) w) := by
  have HR := Lib.hid (rotate11 x w)
  go_enter Tryd.func45, Tryd.ntmps45
  go_wp2_with fail
  refine HR.out.mono ?_
  rintro e w1 ⟨rfl, rfl⟩
  go_wp2
  go_ret
  exact ⟨rfl, rfl⟩

set_option maxHeartbeats 400000 in
theorem rotate13 (x : W32) (w : World) :
    Calls Tryd.prog 46 #[.int .u32 (x.toNat : Int), .int .i64 (-13)] w (U32 (rr 13 x) w) := by
  have hb := x.isLt
  have ha : bits .and .u64 (IntKind.u64.wrap (-13)) 31 = 19 := by decide +kernel
  have HR := Lib.hid (rr_bits x 13 524288 8192 (by decide) (by decide))
  generalize x.toNat = N at *
  go_enter Tryd.func46, Tryd.ntmps46
  go_wp2
  go_ret
  refine ⟨?_, rfl⟩
  rw [← HR.out]
  rfl
theorem down13 (x : W32) (w : World) :
    Calls Tryd.prog 45 #[.int .u32 (x.toNat : Int), .int .i64 13] w (U32 (rr 13 x) w) := by
  have HR := Lib.hid (rotate13 x w)
  go_enter Tryd.func45, Tryd.ntmps45
  go_wp2_with fail
  refine HR.out.mono ?_
  rintro e w1 ⟨rfl, rfl⟩
  go_wp2
  go_ret
  exact ⟨rfl, rfl⟩

set_option maxHeartbeats 400000 in
theorem rotate17 (x : W32) (w : World) :
    Calls Tryd.prog 46 #[.int .u32 (x.toNat : Int), .int .i64 (-17)] w (U32 (rr 17 x) w) := by
  have hb := x.isLt
  have ha : bits .and .u64 (IntKind.u64.wrap (-17)) 31 = 15 := by decide +kernel
  have HR := Lib.hid (rr_bits x 17 32768 131072 (by decide) (by decide))
  generalize x.toNat = N at *
  go_enter Tryd.func46, Tryd.ntmps46
  go_wp2
  go_ret
  refine ⟨?_, rfl⟩
  rw [← HR.out]
  rfl
theorem down17 (x : W32) (w : World) :
    Calls Tryd.prog 45 #[.int .u32 (x.toNat : Int), .int .i64 17] w (U32 (rr 17 x) w) := by
  have HR := Lib.hid (rotate17 x w)
  go_enter Tryd.func45, Tryd.ntmps45
  go_wp2_with fail
  refine HR.out.mono ?_
  rintro e w1 ⟨rfl, rfl⟩
  go_wp2
  go_ret
  exact ⟨rfl, rfl⟩

set_option maxHeartbeats 400000 in
theorem rotate18 (x : W32) (w : World) :
    Calls Tryd.prog 46 #[.int .u32 (x.toNat : Int), .int .i64 (-18)] w (U32 (rr 18 x) w) := by
  have hb := x.isLt
  have ha : bits .and .u64 (IntKind.u64.wrap (-18)) 31 = 14 := by decide +kernel
  have HR := Lib.hid (rr_bits x 18 16384 262144 (by decide) (by decide))
  generalize x.toNat = N at *
  go_enter Tryd.func46, Tryd.ntmps46
  go_wp2
  go_ret
  refine ⟨?_, rfl⟩
  rw [← HR.out]
  rfl
theorem down18 (x : W32) (w : World) :
    Calls Tryd.prog 45 #[.int .u32 (x.toNat : Int), .int .i64 18] w (U32 (rr 18 x) w) := by
  have HR := Lib.hid (rotate18 x w)
  go_enter Tryd.func45, Tryd.ntmps45
  go_wp2_with fail
  refine HR.out.mono ?_
  rintro e w1 ⟨rfl, rfl⟩
  go_wp2
  go_ret
  exact ⟨rfl, rfl⟩

set_option maxHeartbeats 400000 in
theorem rotate19 (x : W32) (w : World) :
    Calls Tryd.prog 46 #[.int .u32 (x.toNat : Int), .int .i64 (-19)] w (U32 (rr 19 x) w) := by
  have hb := x.isLt
  have ha : bits .and .u64 (IntKind.u64.wrap (-19)) 31 = 13 := by decide +kernel
  have HR := Lib.hid (rr_bits x 19 8192 524288 (by decide) (by decide))
  generalize x.toNat = N at *
  go_enter Tryd.func46, Tryd.ntmps46
  go_wp2
  go_ret
  refine ⟨?_, rfl⟩
  rw [← HR.out]
  rfl
theorem down19 (x : W32) (w : World) :
    Calls Tryd.prog 45 #[.int .u32 (x.toNat : Int), .int .i64 19] w (U32 (rr 19 x) w) := by
  have HR := Lib.hid (rotate19 x w)
  go_enter Tryd.func45, Tryd.ntmps45
  go_wp2_with fail
  refine HR.out.mono ?_
  rintro e w1 ⟨rfl, rfl⟩
  go_wp2
  go_ret
  exact ⟨rfl, rfl⟩

set_option maxHeartbeats 400000 in
theorem rotate22 (x : W32) (w : World) :
    Calls Tryd.prog 46 #[.int .u32 (x.toNat : Int), .int .i64 (-22)] w (U32 (rr 22 x) w) := by
  have hb := x.isLt
  have ha : bits .and .u64 (IntKind.u64.wrap (-22)) 31 = 10 := by decide +kernel
  have HR := Lib.hid (rr_bits x 22 1024 4194304 (by decide) (by decide))
  generalize x.toNat = N at *
  go_enter Tryd.func46, Tryd.ntmps46
  go_wp2
  go_ret
  refine ⟨?_, rfl⟩
  rw [← HR.out]
  rfl
theorem down22 (x : W32) (w : World) :
    Calls Tryd.prog 45 #[.int .u32 (x.toNat : Int), .int .i64 22] w (U32 (rr 22 x) w) := by
  have HR := Lib.hid (rotate22 x w)
  go_enter Tryd.func45, Tryd.ntmps45
  go_wp2_with fail
  refine HR.out.mono ?_
  rintro e w1 ⟨rfl, rfl⟩
  go_wp2
  go_ret
  exact ⟨rfl, rfl⟩

set_option maxHeartbeats 400000 in
theorem rotate25 (x : W32) (w : World) :
    Calls Tryd.prog 46 #[.int .u32 (x.toNat : Int), .int .i64 (-25)] w (U32 (rr 25 x) w) := by
  have hb := x.isLt
  have ha : bits .and .u64 (IntKind.u64.wrap (-25)) 31 = 7 := by decide +kernel
  have HR := Lib.hid (rr_bits x 25 128 33554432 (by decide) (by decide))
  generalize x.toNat = N at *
  go_enter Tryd.func46, Tryd.ntmps46
  go_wp2
  go_ret
  refine ⟨?_, rfl⟩
  rw [← HR.out]
  rfl
theorem down25 (x : W32) (w : World) :
    Calls Tryd.prog 45 #[.int .u32 (x.toNat : Int), .int .i64 25] w (U32 (rr 25 x) w) := by
  have HR := Lib.hid (rotate25 x w)
  go_enter Tryd.func45, Tryd.ntmps45
  go_wp2_with fail
  refine HR.out.mono ?_
  rintro e w1 ⟨rfl, rfl⟩
  go_wp2
  go_ret
  exact ⟨rfl, rfl⟩
end Go.Proofs.YtmhcfbfdbminnaaDoor
