/-
  Layer 8's awake: what the document fixes of three things.
-/
import Derived.Test.YtnbeakpmglefmaaRngIPut
namespace Go.Proofs.Ytnbeakpmglefmaa
open Go.RowKit

def Awake (w : World) (e : Ending) (w' : World) : Prop := e = .returned (.bool true) ∧ w.grownBy w' none

/-- What New answers where there is room. -/
def RingI.NewAt (w : World) (R : Nat) (e : Ending) (w' : World) : Prop :=
  ∃ g : Nat, e = .returned (.pointer (some ⟨g, 0, none⟩)) ∧ RingI.Ring w' g none R [] ∧ w.heap.size ≤ g ∧ w.grownBy w' none
theorem RingI.new_at (R : Nat) (hR : R ≤ 65536) (w : World) : Calls Try.prog 10 #[.int .i64 (R : Int)] w (RingI.NewAt w R) := by
  refine (RingI.new_any R w).mono ?_
  rintro e w' (⟨R', g, he, _, h1, h2, h3, h4⟩ | ⟨h, _⟩)
  · obtain rfl : R = R' := by omega
    exact ⟨g, h1, h2, h3, h4⟩
  · omega

set_option maxHeartbeats 4000000 in
theorem awake_any (w : World) : Calls Try.prog 11 #[] w (Awake w) := by
  have HN := Lib.hid (RingI.new_at 2 (by decide) w)
  go_enter Try.func11, Try.ntmps11
  go_wp2_with fail
  refine HN.out.mono ?_
  rintro e w1 ⟨g, rfl, hr1, hge, hg1⟩
  have H1 := Lib.hid (RingI.put_at g none 2 [] 1 w1 hr1 (by decide) (by decide))
  have HG1 := Lib.hid (And.intro hge hg1)
  clear hr1 hge hg1 HN
  go_wp2_with fail
  refine H1.out.mono ?_
  rintro e w2 ⟨v2, rfl, hr2, hw2⟩
  have H2 := Lib.hid (RingI.put_at g v2 2 [1] 2 w2 hr2 (by decide) (by decide))
  have HW2 := Lib.hid hw2
  clear H1 hr2 hw2
  go_wp2_with fail
  refine H2.out.mono ?_
  rintro e w3 ⟨v3, rfl, hr3, hw3⟩
  have H3 := Lib.hid (RingI.put_at g v3 2 [1, 2] 3 w3 hr3 (by decide) (by decide))
  have HW3 := Lib.hid (HW2.out.trans hw3)
  clear H2 hr3 hw3 HW2
  go_wp2_with fail
  refine H3.out.mono ?_
  rintro e w4 ⟨v4, rfl, hr4, hw4⟩
  rw [show outIn (0 : Int) 2 [1, 2] 3 = (1, true) from rfl]
  have H4 := Lib.hid (fun W (h : w4.grownBy W none) => Calls.seen (RingI.at_at g v4 2 [1, 2, 3] 1 W (hr4.grown0 h) (by decide) (by decide)))
  rw [show agedIn (0 : Int) 2 [1, 2, 3] 1 = (2, true) from rfl] at H4
  have HL := Lib.hid (fun W (h : w4.grownBy W none) => Calls.seen (RingI.len_at g v4 2 [1, 2, 3] W (hr4.grown0 h)))
  have HM := Lib.hid (fun W (h : w4.grownBy W none) => Calls.seen (RingI.many_at g v4 2 [1, 2, 3] W (hr4.grown0 h)))
  have HO := Lib.hid (fun W (h : w4.grownBy W none) => Calls.seen (RingI.room_at g v4 2 [1, 2, 3] W (hr4.grown0 h)))
  have HW4 := Lib.hid (HW3.out.trans hw4)
  clear H3 hr4 hw4 HW3
  simp only [RingI.pairV]
  simp only [RingI.pairV] at H4
  go_wp2_with fail
  refine (H4.out _ (grown_refl _ _)).mono ?_
  rintro e w5 ⟨rfl, h5⟩
  go_wp2_with fail
  refine (HL.out _ h5).mono ?_
  rintro e w6 ⟨rfl, h6⟩
  have h6 := h5.trans h6
  go_wp2_with fail
  refine (HM.out _ h6).mono ?_
  rintro e w7 ⟨rfl, h7⟩
  have h7 := h6.trans h7
  go_wp2_with fail
  refine (HO.out _ h7).mono ?_
  rintro e w8 ⟨rfl, h8⟩
  go_wp2
  go_ret
  exact ⟨rfl, (HW4.out.new HG1.out.2 HG1.out.1 (fun b e => by cases e)).trans (h7.trans h8)⟩
end Go.Proofs.Ytnbeakpmglefmaa
