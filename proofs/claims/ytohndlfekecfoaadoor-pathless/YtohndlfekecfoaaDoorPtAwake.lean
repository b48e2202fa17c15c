/-
  layer 12's awake over this program: it returns true.
-/
import Derived.Test.YtohndlfekecfoaaDoorPtSort
import Derived.Test.YtohndlfekecfoaaDoorPtRefB
namespace Go.Proofs.YtohndlfekecfoaaDoor
set_option maxRecDepth 1000000
open Go.RowKit

def Awake (w : World) : Ending → World → Prop := Val (.bool true) w

set_option maxHeartbeats 2000000 in
theorem awake_any (w : World) : Calls Tryd.prog 10 #[] w (Awake w) := by
  have h1 := Lib.hid (right_any ⟨#[97, 47, 98]⟩ w (by decide))
  have h2 := Lib.hid (fun w' => right_any ⟨#[97, 47, 46, 46]⟩ w' (by decide))
  have h4 := Lib.hid (fun w' => parent_any ⟨#[97, 47, 98, 47, 99]⟩ w' (by decide))
  have h5 := Lib.hid (fun w' => below_any ⟨#[97, 47, 98]⟩ ⟨#[97]⟩ w' (by decide) (by decide))
  have h6 := Lib.hid (fun w' => parts_any ⟨#[97, 47, 98]⟩ w' (by decide))
  have r1 : rightB (⟨#[97, 47, 98]⟩ : ByteArray).data.toList = true := by decide
  have r2 : rightB (⟨#[97, 47, 46, 46]⟩ : ByteArray).data.toList = false := by decide
  have r3 : sortedB [[97], [97, 47, 98], [97, 46, 98]] = true := by decide
  have r4 : bts (parentB (⟨#[97, 47, 98, 47, 99]⟩ : ByteArray).data.toList) = ⟨#[97, 47, 98]⟩ := by decide
  have r5 : belowB (⟨#[97, 47, 98]⟩ : ByteArray).data.toList (⟨#[97]⟩ : ByteArray).data.toList = true := by decide
  have r6 : (strsV (partsB (⟨#[97, 47, 98]⟩ : ByteArray).data.toList)).length = 2 := by rw [strsV_len]; decide
  have R := Lib.hid (And.intro r1 (And.intro r2 (And.intro r3 (And.intro r4 (And.intro r5 r6)))))
  clear r1 r2 r3 r4 r5 r6
  go_enter Tryd.func10, Tryd.ntmps10
  go_wp2_with fail
  refine h1.out.mono ?_
  rintro e w1 ⟨rfl, hg⟩
  have G1 := Lib.hid hg
  clear hg h1
  rw [R.out.1]
  go_wp2_with fail
  refine (h2.out _).mono ?_
  rintro e w2 ⟨rfl, hg⟩
  have G2 := Lib.hid (World.grownBy.trans G1.out hg)
  clear hg h2 G1
  rw [R.out.2.1]
  go_wp2_with fail
  refine (sorted_any _ [[97], [97, 47, 98], [97, 46, 98]] _ (Rd.new _ (strsV [[97], [97, 47, 98], [97, 46, 98]]) _ (0, 0) 3 (by decide) (by decide)) (by decide) (by decide)).mono ?_
  rintro e w3 ⟨rfl, hg⟩
  have G3 := Lib.hid (World.grownBy.trans (grown_alloc G2.out _) hg)
  clear hg G2
  rw [R.out.2.2.1]
  go_wp2_with fail
  refine (h4.out _).mono ?_
  rintro e w4 ⟨rfl, hg⟩
  have G4 := Lib.hid (World.grownBy.trans G3.out hg)
  clear hg h4 G3
  rw [R.out.2.2.2.1]
  go_wp2_with fail
  refine (h5.out _).mono ?_
  rintro e w5 ⟨rfl, hg⟩
  have G5 := Lib.hid (World.grownBy.trans G4.out hg)
  clear hg h5 G4
  rw [R.out.2.2.2.2.1]
  go_wp2_with fail
  refine (h6.out _).mono ?_
  rintro e w6 ⟨v, rfl, hr, hg, _⟩
  have G6 := Lib.hid (World.grownBy.trans G5.out hg)
  obtain ⟨A, c, rfl⟩ := hr.form
  rw [R.out.2.2.2.2.2]
  clear hr hg h6 G5 R
  go_wp2
  go_ret
  exact ⟨rfl, G6.out⟩
end Go.Proofs.YtohndlfekecfoaaDoor
