/-
  The walk of the law DigestOf.
-/
import Derived.Test.YtibpjmbnllmahaaDoorRefOf
import Derived.Test.YtibpjmbnllmahaaDoorDigPadsLaw
namespace Go.Proofs.YtibpjmbnllmahaaDoor
open Go.RowKit

theorem ex_sliceAll {o : Oper} {a : Act} {w : World} {x : Operand} {g : Nat} (h : o.op = .slice 24 x none none none) (hx : a.eval x = .pointer (some ⟨g, 0, none⟩)) : (execOp a.eval o).run Tryd.prog w = .ok (.value (.slice (some ⟨g, 0, none⟩) 32 32)) w := by
  simp only [execOp, h, hx, Option.map_none]
  simp [go_sem, Instr.sliceAt, Instr.sliceBounds, Addr.add]

set_option maxHeartbeats 4000000 in
theorem digestOf_walk (A : Option Addr) (n c : Nat) (l : List UInt8) (w : World) (hT : Tab w) (hr : Rd w (.slice A n c) (bytesV l)) :
    Calls Tryd.prog 3 #[.slice A n c] w (Awake w) := by
  have HR := Lib.hid hr
  have HT := Lib.hid hT
  have hl := hr.len.1
  rw [bytesV_len] at hl
  clear hr hT
  by_cases h : 500 < n
  · have hb : decide (500 < (n : Int)) = true := by simp; omega
    clear hl
    go_enter Tryd.func3, Tryd.ntmps3
    go_wp2_with fail
    refine (awake_any _ HT.out).mono ?_
    rintro e w1 ⟨rfl, hg1⟩
    go_wp2
    go_ret
    exact ⟨rfl, hg1⟩
  · have hb : decide (500 < (n : Int)) = false := by simp; omega
    have HL := Lib.hid (And.intro hl h)
    have HOF := Lib.hid (of_one _ l w 22 HT.out HR.out (by omega))
    have HTL := Lib.hid (show (bytesV (sha l)).length = 32 by rw [bytesV_len]; unfold sha; rw [told_len, runB_len _ _ start_len])
    clear hl h
    go_enter Tryd.func3, Tryd.ntmps3
    go_wp2_with fail
    refine HOF.out.mono ?_
    rintro e w6 ⟨rfl, hg6⟩
    have HG6 := Lib.hid (show w.grownBy w6 none from (grown_alloc (grown_refl _ _) _).trans hg6)
    clear hg6 HOF
    go_wp2_with (refine wpList_store_row _ rfl rfl _ _ _ rfl w6.heap.size 24 (noughts8 32) (bytesV (sha l)) rfl rfl (Row.new w6 24 (noughts8 32)) ?_ (bytesV_one _) ?_ ?_)
    · rw [HTL.out]; rfl
    · rw [HTL.out]; kernel_rfl
    intro w7 hr7 hg7
    have hgw7 : w6.grownBy w7 none := grown_own (grown_alloc (grown_refl _ _) _) hg7 (Nat.le_refl _)
    have HG7 := Lib.hid (HG6.out.trans hgw7)
    have HR7 := Lib.hid hr7
    have HRL := Lib.hid (HR.out.grown0 HG7.out)
    have HT7 := Lib.hid (HT.out.grown HG7.out)
    clear hr7 hg7 hgw7 HG6
    generalize w6.heap.size = g2 at *
    go_wp2_with fail
    refine wp_region_steps none (by kernel_rfl) (by kernel_rfl) (by kernel_rfl) ?_
    refine Steps.val (G := IsB (sha l)) (lasts_bytes _) rfl (fun a w hm hd => ⟨wanted_plain rfl, _, ex_sliceAll rfl (by rw [hm.outer 3 (by kernel_rfl)]; rfl), (HR7.out.grown0 hm.grow).rd 32 32 HTL.out (by decide) (by decide)⟩) ?_
    refine Steps.val (G := Is (.string ⟨(sha l).toArray⟩)) (lasts_is _) rfl (fun a w hm hd => ⟨wanted_plain rfl, _, ex_str rfl (hd.at_ 0 rfl rfl rfl), rfl⟩) ?_
    refine Steps.val (G := IsB l) (lasts_bytes _) rfl (fun a w hm hd => ⟨wanted_plain rfl, _, ex_move rfl, (by rw [hm.outer 0 (by kernel_rfl)]; exact HRL.out.grown0 hm.grow)⟩) ?_
    refine Steps.call (G := IsB (sha l)) (lasts_bytes _) rfl 11 (fun a w hm hd => ⟨wanted_plain rfl, _, ex_call1 Tryd.func11 (by kernel_rfl) (by kernel_rfl) rfl, by
      refine (refOf_any _ l w (hd.at_ 2 rfl rfl rfl) (by have := HL.out; omega)).mono ?_
      rintro e w' ⟨u, rfl, hr, hg⟩
      exact ⟨u, rfl, hg, hr⟩⟩) ?_
    refine Steps.val (G := Is (.string ⟨(sha l).toArray⟩)) (lasts_is _) rfl (fun a w hm hd => ⟨wanted_plain rfl, _, ex_str rfl (hd.at_ 3 rfl rfl rfl), rfl⟩) ?_
    refine Steps.val (G := Is (.bool true)) (lasts_is _) rfl (fun a w hm hd => ⟨wanted_plain rfl, _, ex_eqs rfl (hd.at_ 1 rfl rfl rfl) (hd.at_ 4 rfl rfl rfl), rfl⟩) ?_
    refine Steps.val (G := Is (.bool true)) (lasts_is _) rfl (fun a w hm hd => ⟨wanted_plain rfl, _, ex_move rfl, hd.at_ 5 rfl rfl rfl⟩) ?_
    refine Steps.call (G := Is (.bool true)) (lasts_is _) rfl 9 (fun a w hm hd => ⟨wanted_at rfl rfl (hd.at_ 6 rfl rfl rfl), _, ex_call0 Tryd.func9 (by kernel_rfl) (by kernel_rfl) rfl, by
      refine (awake_any w (HT7.out.grown hm.grow)).mono ?_
      rintro e w' ⟨rfl, hg⟩
      exact ⟨_, rfl, hg, rfl⟩⟩) ?_
    refine Steps.val (G := Is (.bool true)) (lasts_is _) rfl (fun a w hm hd => ⟨wanted_plain rfl, _, ex_pick rfl (hd.at_ 6 rfl rfl rfl) (hd.at_ 7 rfl rfl rfl), rfl⟩) ?_
    refine Steps.val (G := Is (.bool true)) (lasts_is _) rfl (fun a w hm hd => ⟨wanted_plain rfl, _, ex_assign rfl, hd.at_ 8 rfl rfl rfl⟩) ?_
    intro a w2 hmid hall
    have h2 : a.eval (.tmp 2) = .bool true := hall 9 _ 2 rfl rfl
    have hdf : a.defers = [] := hmid.defers
    have hgr := hmid.grow
    clear hall hmid
    obtain ⟨tm, df⟩ := a
    simp only at hdf
    subst hdf
    go_wp2
    go_ret
    exact ⟨congrArg Ending.returned h2, HG7.out.trans hgr⟩
end Go.Proofs.YtibpjmbnllmahaaDoor
