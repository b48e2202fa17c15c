/-
  The walk of the law SumOf.
-/
import Derived.Test.YtmpelcgmfdggfaaDoorSumAwake
namespace Go.Proofs.YtmpelcgmfdggfaaDoor
open Go.RowKit

set_option maxHeartbeats 1000000 in
theorem sumOf_walk (A : Option Addr) (n c : Nat) (l : List UInt8) (w : World) (hT : Tab w) (hr : Rd w (.slice A n c) (bytesV l)) :
    Calls Tryd.prog 3 #[.slice A n c] w (Awake w) := by
  have HR := Lib.hid hr
  have HT := Lib.hid hT
  obtain ⟨hl, hlc, hcm⟩ := hr.len
  unfold maxLen at hcm
  clear hr hT hl
  by_cases h : 3000 < n
  · have hb : decide (3000 < (n : Int)) = true := by simp; omega
    go_enter Tryd.func3, Tryd.ntmps3
    go_wp2_with fail
    refine (awake_any _ HT.out).mono ?_
    rintro e w1 ⟨rfl, hg1⟩
    go_wp2
    go_ret
    exact ⟨rfl, hg1⟩
  · have hb : decide (3000 < (n : Int)) = false := by simp; omega
    go_enter Tryd.func3, Tryd.ntmps3
    go_wp2_with fail
    refine (of_one A n c l w _ HT.out HR.out).mono ?_
    rintro e w1 ⟨rfl, rfl⟩
    go_wp2_with fail
    refine (refOf_any _ l _ (HR.out.alloc _)).mono ?_
    rintro e w1 ⟨rfl, rfl⟩
    generalize (crc l).toNat = N at *
    go_wp2_with fail
    refine (awake_any _ (HT.out.alloc _)).mono ?_
    rintro e w1 ⟨rfl, hg1⟩
    go_wp2
    go_ret
    exact ⟨rfl, (grown_alloc (grown_refl _ _) _).trans hg1⟩
end Go.Proofs.YtmpelcgmfdggfaaDoor
