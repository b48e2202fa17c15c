/-
  math/bits.RotateLeft32 and stream.Quarter over this program.
-/
import Derived.Test.YtjcbdplbekecjaaBase
import Derived.Test.YtjcbdplbekecjaaCha
import Derived.Test.YtjcbdplbekecjaaChecked
import Derived.Laws.BitsAllLaws
namespace Go.Proofs.Ytjcbdplbekecjaa
open Go.RowKit

/-- A call that answers a word and turns nothing. -/
def U32 (n : BitVec 32) (w : World) (e : Ending) (w' : World) : Prop := e = .returned (.int .u32 (n.toNat : Int)) ∧ w' = w
/-- A call that answers four words and turns nothing. -/
def U4 (q : Q4) (w : World) (e : Ending) (w' : World) : Prop := e = .returned (.tuple #[.int .u32 (q.a.toNat : Int), .int .u32 (q.b.toNat : Int), .int .u32 (q.c.toNat : Int), .int .u32 (q.d.toNat : Int)]) ∧ w' = w

theorem rl_bits (x : W32) (n : Nat) (p q : Nat) (hp : 2 ^ n = p) (hq : 2 ^ (32 - n) = q) : bits .or .u32 ((x.toNat : Int) * (p : Int) % 4294967296) ((x.toNat : Int) / (q : Int)) = ((rl n x).toNat : Int) := by
  have hb := x.isLt
  have h1 : ((x.toNat : Int) * (p : Int) % 4294967296) = ((x.toNat * p % 4294967296 : Nat) : Int) := by simp only [Int.natCast_emod, Int.natCast_mul]; rfl
  have h2 : ((x.toNat : Int) / (q : Int)) = ((x.toNat / q : Nat) : Int) := by simp only [Int.natCast_ediv]
  have h3 : x.toNat / q < 4294967296 := Nat.lt_of_le_of_lt (Nat.div_le_self _ _) hb
  rw [h1, h2, u32_or_nat _ _ (Nat.mod_lt _ (by decide)) h3]
  unfold rl
  rw [BitVec.toNat_or, BitVec.toNat_ushiftRight, BitVec.toNat_shiftLeft, Nat.shiftLeft_eq, Nat.shiftRight_eq_div_pow, hp, hq]
theorem xor32 (a b : BitVec 32) : bits .xor .u32 (a.toNat : Int) (b.toNat : Int) = ((a ^^^ b).toNat : Int) := by
  rw [u32_xor_nat _ _ a.isLt b.isLt, BitVec.toNat_xor]
theorem add_bits (a b : W32) : ((a.toNat : Int) + (b.toNat : Int)) % 4294967296 = ((a + b).toNat : Int) := by
  rw [BitVec.toNat_add]
  omega

set_option maxHeartbeats 400000 in
theorem rot16 (x : W32) (w : World) :
    Calls Try.prog 64 #[.int .u32 (x.toNat : Int), .int .i64 16] w (U32 (rl 16 x) w) := by
  have hb := x.isLt
  have ha : bits .and .u64 16 31 = 16 := by decide +kernel
  have HR := Lib.hid (rl_bits x 16 65536 65536 (by decide) (by decide))
  generalize x.toNat = N at *
  go_enter Try.func64, Try.ntmps64
  go_wp2
  go_ret
  refine ⟨?_, rfl⟩
  rw [← HR.out]
  rfl

set_option maxHeartbeats 400000 in
theorem rot12 (x : W32) (w : World) :
    Calls Try.prog 64 #[.int .u32 (x.toNat : Int), .int .i64 12] w (U32 (rl 12 x) w) := by
  have hb := x.isLt
  have ha : bits .and .u64 12 31 = 12 := by decide +kernel
  have HR := Lib.hid (rl_bits x 12 4096 1048576 (by decide) (by decide))
  generalize x.toNat = N at *
  go_enter Try.func64, Try.ntmps64
  go_wp2
  go_ret
  refine ⟨?_, rfl⟩
  rw [← HR.out]
  rfl

set_option maxHeartbeats 400000 in
theorem rot8 (x : W32) (w : World) :
    Calls Try.prog 64 #[.int .u32 (x.toNat : Int), .int .i64 8] w (U32 (rl 8 x) w) := by
  have hb := x.isLt
  have ha : bits .and .u64 8 31 = 8 := by decide +kernel
  have HR := Lib.hid (rl_bits x 8 256 16777216 (by decide) (by decide))
  generalize x.toNat = N at *
  go_enter Try.func64, Try.ntmps64
  go_wp2
  go_ret
  refine ⟨?_, rfl⟩
  rw [← HR.out]
  rfl

set_option maxHeartbeats 400000 in
theorem rot7 (x : W32) (w : World) :
    Calls Try.prog 64 #[.int .u32 (x.toNat : Int), .int .i64 7] w (U32 (rl 7 x) w) := by
  have hb := x.isLt
  have ha : bits .and .u64 7 31 = 7 := by decide +kernel
  have HR := Lib.hid (rl_bits x 7 128 33554432 (by decide) (by decide))
  generalize x.toNat = N at *
  go_enter Try.func64, Try.ntmps64
  go_wp2
  go_ret
  refine ⟨?_, rfl⟩
  rw [← HR.out]
  rfl

set_option maxHeartbeats 4000000 in
theorem quarter_any (q : Q4) (w : World) :
    Calls Try.prog 56 #[.int .u32 (q.a.toNat : Int), .int .u32 (q.b.toNat : Int), .int .u32 (q.c.toNat : Int), .int .u32 (q.d.toNat : Int)] w (U4 (qr q) w) := by
  obtain ⟨a, b, c, d⟩ := q
  obtain ⟨a1, ha1⟩ : ∃ y, y = a + b := ⟨_, rfl⟩
  obtain ⟨d1, hd1⟩ : ∃ y, y = rl 16 (d ^^^ a1) := ⟨_, rfl⟩
  obtain ⟨c1, hc1⟩ : ∃ y, y = c + d1 := ⟨_, rfl⟩
  obtain ⟨b1, hb1⟩ : ∃ y, y = rl 12 (b ^^^ c1) := ⟨_, rfl⟩
  obtain ⟨a2, ha2⟩ : ∃ y, y = a1 + b1 := ⟨_, rfl⟩
  obtain ⟨d2, hd2⟩ : ∃ y, y = rl 8 (d1 ^^^ a2) := ⟨_, rfl⟩
  obtain ⟨c2, hc2⟩ : ∃ y, y = c1 + d2 := ⟨_, rfl⟩
  obtain ⟨b2, hb2⟩ : ∃ y, y = rl 7 (b1 ^^^ c2) := ⟨_, rfl⟩
  have hq : qr ⟨a, b, c, d⟩ = ⟨a2, b2, c2, d2⟩ := by subst hb2 hc2 hd2 ha2 hb1 hc1 hd1 ha1; rfl
  have e1 := add_bits a b
  have e2 := add_bits c d1
  have e3 := add_bits a1 b1
  have e4 := add_bits c1 d2
  have r1 := rot16 (d ^^^ a1)
  have r2 := rot12 (b ^^^ c1)
  have r3 := rot8 (d1 ^^^ a2)
  have r4 := rot7 (b1 ^^^ c2)
  rw [← hd1] at r1
  rw [← hb1] at r2
  rw [← hd2] at r3
  rw [← hb2] at r4
  rw [← ha1] at e1
  rw [← hc1] at e2
  rw [← ha2] at e3
  rw [← hc2] at e4
  have E1 := Lib.hid e1
  have E2 := Lib.hid e2
  have E3 := Lib.hid e3
  have E4 := Lib.hid e4
  have R1 := Lib.hid r1
  have R2 := Lib.hid r2
  have R3 := Lib.hid r3
  have R4 := Lib.hid r4
  have X1 := Lib.hid (xor32 d a1)
  have X2 := Lib.hid (xor32 b c1)
  have X3 := Lib.hid (xor32 d1 a2)
  have X4 := Lib.hid (xor32 b1 c2)
  rw [hq]
  clear hq ha1 hd1 hc1 hb1 ha2 hd2 hc2 hb2 e1 e2 e3 e4 r1 r2 r3 r4
  go_enter Try.func56, Try.ntmps56
  go_wp2_with fail
  rw [E1.out, X1.out]
  refine (R1.out _).mono ?_
  rintro e w1 ⟨rfl, rfl⟩
  go_wp2_with fail
  rw [E2.out, X2.out]
  refine (R2.out _).mono ?_
  rintro e w1 ⟨rfl, rfl⟩
  go_wp2_with fail
  rw [E3.out, X3.out]
  refine (R3.out _).mono ?_
  rintro e w1 ⟨rfl, rfl⟩
  go_wp2_with fail
  rw [E4.out, X4.out]
  refine (R4.out _).mono ?_
  rintro e w1 ⟨rfl, rfl⟩
  go_wp2
  refine bodyPost_ret (v := .tuple #[.int .u32 (a2.toNat : Int), .int .u32 (b2.toNat : Int), .int .u32 (c2.toNat : Int), .int .u32 (d2.toNat : Int)]) ?_ rfl ⟨rfl, rfl⟩
  simp [results, Try.results56, go_sem]
end Go.Proofs.Ytjcbdplbekecjaa
