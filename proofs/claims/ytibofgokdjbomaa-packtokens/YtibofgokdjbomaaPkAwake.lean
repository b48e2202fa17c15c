/-
  Layer 11's awake: what the document fixes of no bytes.
-/
import Derived.Test.YtibofgokdjbomaaPkPack
import Derived.Test.YtibofgokdjbomaaBytConst
namespace Go.Proofs.Ytibofgokdjbomaa
set_option maxRecDepth 1000000
open Go.RowKit

def Awake (w : World) (e : Ending) (w' : World) : Prop := e = .returned (.bool true) ∧ w.grownBy w' none

def abc9 : List UInt8 := [97, 98, 99, 97, 98, 99, 97, 98, 99]
theorem pack_none : packR [] 9 = ([0, 0, 0, 0, 0], 0) := by
  have h1 : parse [] 9 = [] := by decide +kernel
  unfold packR
  rw [if_neg (by omega), if_neg (by simp)]
  unfold packM
  rw [h1, show ([] : List UInt8).length = 0 from rfl, enc_small (by decide)]
  decide +kernel
theorem pack_in (b : List UInt8) (q : Int) (hb : b.length ≤ 65536) (hq : 1 ≤ q ∧ q ≤ 32768) : packR b q = (packM b q, 0) := by
  unfold packR
  rw [if_neg (by omega), if_neg (by omega)]
set_option maxHeartbeats 4000000 in
theorem awake_any (w : World) : Calls Try.prog 11 #[] w (Awake w) := by
  have HP0 := Lib.hid (fun W => pack_any (.slice none 0 0) [] 9 W (Rd.nil _))
  rw [pack_none] at HP0
  have HP := Lib.hid (fun (W : World) (H : Nat) (_ : W.heap.size = H) (h : Rd (W.alloc (.cells (bytesV abc9).toArray 5 (9, 10))) (.slice (some ⟨H, 0, none⟩) 9 9) (bytesV abc9)) => pack_any _ abc9 9 _ h)
  rw [pack_in abc9 9 (by decide) (by decide)] at HP
  have HPL := Lib.hid (pack_len abc9 9 (by decide) (by decide)).1
  have HUP := Lib.hid (fun v W (h : Rd W v (bytesV (packM abc9 9))) => unpack_any v (packM abc9 9) W h (by have := HPL.out; rw [show abc9.length = 9 from rfl] at this; omega))
  rw [unpack_pack abc9 9 (by decide) (by decide)] at HUP
  generalize packM abc9 9 = PX at *
  go_enter Try.func11, Try.ntmps11
  go_wp2_with fail
  refine (HP0.out w).mono ?_
  rintro e w1 ⟨u1, rfl, hr1, hg1⟩
  obtain ⟨H, hH⟩ : ∃ H, w1.heap.size = H := ⟨_, rfl⟩
  have hcv := const_at w1 H hH #[.int .u8 97, .int .u8 98, .int .u8 99, .int .u8 97, .int .u8 98, .int .u8 99, .int .u8 97, .int .u8 98, .int .u8 99] 9 9
  have HRD := Lib.hid (show Rd (w1.alloc (.cells (bytesV abc9).toArray 5 (9, 10))) (.slice (some ⟨H, 0, none⟩) 9 9) (bytesV abc9) from Rd.const w1 H hH abc9 (9, 10) 9 rfl (by decide))
  have HP1 := Lib.hid (HP.out w1 H hH HRD.out)
  have HR1 := Lib.hid (And.intro hr1 hg1)
  clear hr1 hg1 HP HP0
  go_wp2_with fail
  refine HP1.out.mono ?_
  rintro e w2 ⟨u2, rfl, hr2, hg2⟩
  have HG2 := Lib.hid (show w1.grownBy w2 none from (grown_alloc (grown_refl _ _) _).trans hg2)
  have HU := Lib.hid (HUP.out u2 w2 hr2)
  clear hr2 hg2 HUP HP1 hcv HRD hH
  go_wp2_with fail
  refine HU.out.mono ?_
  rintro e w3 ⟨u3, rfl, hr3, hg3⟩
  have hx := (HR1.out.1.grown0 HG2.out).grown0 hg3
  have HG := Lib.hid (HR1.out.2.trans (HG2.out.trans hg3))
  obtain ⟨A1, c1, rfl⟩ := hx.form
  obtain ⟨A3, c3, rfl⟩ := hr3.form
  have s1 := run_str hx
  have s3 := run_str hr3
  clear hr3 hg3 hx HU HG2 HR1
  simp only [bytesV_len] at s1 s3 ⊢
  rw [show ([0, 0, 0, 0, 0] : List UInt8).length = 5 from rfl] at s1
  rw [show abc9.length = 9 from rfl] at s3
  rw [show ([0, 0, 0, 0, 0] : List UInt8).length = 5 from rfl, show abc9.length = 9 from rfl]
  go_wp2
  go_ret
  exact ⟨rfl, HG.out⟩
end Go.Proofs.Ytibofgokdjbomaa
