/-
  Layer 9's awake: what the document fixes of bytes that repeat.
-/
import Derived.Test.YtbpnkcjaekbcdaaParsePr
import Derived.Test.YtbpnkcjaekbcdaaTokExpand
import Derived.Test.YtbpnkcjaekbcdaaBytConst
import Derived.Laws.StructEq
namespace Go.Proofs.Ytbpnkcjaekbcdaa
open Go.RowKit

def Awake (w : World) (e : Ending) (w' : World) : Prop := e = .returned (.bool true) ∧ w.grownBy w' none

def abc : List UInt8 := [97, 98, 99, 97, 98, 99, 97, 98, 99, 100]
def abcT : List Tok := [⟨97, 0, 0⟩, ⟨98, 0, 0⟩, ⟨99, 0, 0⟩, ⟨0, 6, 3⟩, ⟨100, 0, 0⟩]
theorem parse_abc : parse abc 100 = abcT := by decide +kernel

set_option maxHeartbeats 1000000 in
theorem awake_any (w : World) : Calls Try.prog 9 #[] w (Awake w) := by
  have HP := Lib.hid (fun W (h : Rd W (.slice (some ⟨w.heap.size, 0, none⟩) 10 10) (bytesV abc)) => parse_any _ abc 100 W h (by decide))
  rw [parse_abc] at HP
  generalize hH : w.heap.size = H at *
  have hcv : (convert 22 22 (.slice (some ⟨H, 0, none⟩) 10 10)).run Try.prog (w.alloc (.cells #[.int .u8 97, .int .u8 98, .int .u8 99, .int .u8 97, .int .u8 98, .int .u8 99, .int .u8 97, .int .u8 98, .int .u8 99, .int .u8 100] 5)) = .ok (.slice (some ⟨H, 0, none⟩) 10 10) (w.alloc (.cells #[.int .u8 97, .int .u8 98, .int .u8 99, .int .u8 97, .int .u8 98, .int .u8 99, .int .u8 97, .int .u8 98, .int .u8 99, .int .u8 100] 5 (10, 11))) :=
    const_at w H hH #[.int .u8 97, .int .u8 98, .int .u8 99, .int .u8 97, .int .u8 98, .int .u8 99, .int .u8 97, .int .u8 98, .int .u8 99, .int .u8 100] 10 10
  have HRD := Lib.hid (show Rd (w.alloc (.cells #[.int .u8 97, .int .u8 98, .int .u8 99, .int .u8 97, .int .u8 98, .int .u8 99, .int .u8 97, .int .u8 98, .int .u8 99, .int .u8 100] 5 (10, 11))) (.slice (some ⟨H, 0, none⟩) 10 10) (bytesV abc) from Rd.const w H hH abc (10, 11) 10 rfl (by decide))
  have HG0 := Lib.hid (show w.grownBy (w.alloc (.cells #[.int .u8 97, .int .u8 98, .int .u8 99, .int .u8 97, .int .u8 98, .int .u8 99, .int .u8 97, .int .u8 98, .int .u8 99, .int .u8 100] 5 (10, 11))) none from grown_alloc (grown_refl _ _) _)
  go_enter Try.func9, Try.ntmps9
  go_wp2_with fail
  refine (HP.out _ HRD.out).mono ?_
  rintro e w1 ⟨v, rfl, hr1, hg1⟩
  obtain ⟨A, c, rfl⟩ := hr1.form
  obtain ⟨ad, t0, rfl, ht0, z0, z1, z2⟩ := hr1.tok (k := 0) (by decide)
  obtain ⟨ad', t3, e, ht3, x0, x1, x2⟩ := hr1.tok (k := 3) (by decide)
  obtain rfl := Option.some.inj e
  obtain ⟨ad', t4, e, ht4, y0, y1, y2⟩ := hr1.tok (k := 4) (by decide)
  obtain rfl := Option.some.inj e
  subst ht0 ht3 ht4
  have z0 : w1.cell? ad = some (.int .u8 97) := by rw [show ad.add (0 * 3) = ad by unfold Addr.add; simp] at z0; exact z0
  have z1 : w1.cell? ⟨ad.block, ad.off + 1, none⟩ = some (.int .i64 0) := by rw [show ad.add (0 * 3) = ad by unfold Addr.add; simp] at z1; exact z1
  have z2 : w1.cell? ⟨ad.block, ad.off + 2, none⟩ = some (.int .i64 0) := by rw [show ad.add (0 * 3) = ad by unfold Addr.add; simp] at z2; exact z2
  have e9 : ad.add (3 * 3) = ⟨ad.block, ad.off + 9, none⟩ := by unfold Addr.add; simp
  have e12 : ad.add (4 * 3) = ⟨ad.block, ad.off + 12, none⟩ := by unfold Addr.add; simp
  rw [e9] at x0 x1 x2
  rw [e12] at y0
  have x0 : w1.cell? ⟨ad.block, ad.off + 9, none⟩ = some (.int .u8 0) := x0
  have x1 : w1.cell? ⟨ad.block, ad.off + 9 + 1, none⟩ = some (.int .i64 6) := x1
  have x2 : w1.cell? ⟨ad.block, ad.off + 9 + 2, none⟩ = some (.int .i64 3) := x2
  have y0 : w1.cell? ⟨ad.block, ad.off + 12, none⟩ = some (.int .u8 100) := y0
  have HSZ := Lib.hid (fun W (h : w1.grownBy W none) => sizes_any abcT _ W (hr1.grown0 h) (by decide))
  have HRT := Lib.hid (fun W => right_any ⟨97, 0, 0⟩ W)
  rw [show sizes abcT = 10 by decide +kernel] at HSZ
  rw [show right ⟨97, 0, 0⟩ = true by decide +kernel] at HRT
  rw [show abcT.length = 5 from rfl] at *
  have HG1 := Lib.hid (HG0.out.trans hg1)
  clear hr1 hg1 hcv HP HRD HG0 e y1 y2
  go_wp2_with fail
  refine (HSZ.out _ (grown_refl _ _)).mono ?_
  rintro e w2 ⟨rfl, hg2⟩
  have z0 : w2.cell? ad = some (.int .u8 97) := by rw [← z0]; exact World.cell?_of_block (hg2.block _ (World.block_lt_of_cell? w1 _ z0) (by simp))
  have z1 : w2.cell? ⟨ad.block, ad.off + 1, none⟩ = some (.int .i64 0) := by rw [← z1]; exact World.cell?_of_block (hg2.block _ (World.block_lt_of_cell? w1 _ z1) (by simp))
  have z2 : w2.cell? ⟨ad.block, ad.off + 2, none⟩ = some (.int .i64 0) := by rw [← z2]; exact World.cell?_of_block (hg2.block _ (World.block_lt_of_cell? w1 _ z2) (by simp))
  go_wp2_with fail
  refine (HRT.out _).mono ?_
  rintro e w3 ⟨rfl, hg3⟩
  go_wp2
  go_ret
  exact ⟨rfl, (HG1.out.trans hg2).trans hg3⟩
end Go.Proofs.Ytbpnkcjaekbcdaa
