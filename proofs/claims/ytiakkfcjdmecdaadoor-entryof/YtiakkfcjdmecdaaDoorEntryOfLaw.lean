/-
  EntryOf's walk (P13.1), out of what Of, Right and awake answer.
-/
import Derived.Test.YtiakkfcjdmecdaaDoorEnHas
namespace Go.Proofs.YtiakkfcjdmecdaaDoor
set_option maxRecDepth 1000000
open Go.RowKit

set_option maxHeartbeats 8000000 in
theorem entryOf_walk (haw : HasAwake) (hof : HasOf) (hri : HasRight) (A : Option Addr) (n c : Nat) (l : List Fl) (w : World) (hv : RdF w (.slice A n c) l) :
    Calls Tryd.prog 3 #[.slice A n c] w (Val (.bool true) w) := by
  have HFW := Lib.hid (few_any A n c l w hv)
  have hln := hv.len.1
  subst hln
  have HV := Lib.hid hv
  have HAW := Lib.hid haw
  clear hv haw
  cases hs : fewB l
  · rw [hs] at HFW
    go_enter Tryd.func3, Tryd.ntmps3
    go_wp2_with fail
    refine HFW.out.mono ?_
    rintro e0 w0 ⟨rfl, hg0⟩
    go_wp2_with fail
    refine (HAW.out _).mono ?_
    rintro e1 w1 ⟨rfl, hg1⟩
    go_wp2
    go_ret
    exact ⟨rfl, hg0.trans hg1⟩
  · rw [hs] at HFW
    have hfew : FewF l := fewB_len hs
    obtain ⟨hm, h12⟩ := few_lens hfew
    have HOF := Lib.hid (fun w' (h : RdF w' (.slice A l.length c) l) => hof _ l w' h hfew)
    have HRI := Lib.hid (fun w' (h : RdF w' (.slice A l.length c) l) => hri _ l w' h hfew)
    have HTD := Lib.hid (fun w' (h : RdF w' (.slice A l.length c) l) => told_any l _ w' h (by have := hfew.1; omega) (fun f hf => by have := (hfew.2 f hf).2.2; omega))
    have HWH := Lib.hid (fun u w' (h : RdE w' u (toldF 0 l)) => why_made u 300 (toldF 0 l) w' h hm (by omega) (by omega))
    have HSM := Lib.hid (fun u v w' (h : RdE w' u (toldF 0 l)) (k : RdE w' v (toldF 0 l)) => same_val (toldF 0 l) u v w' h k (by omega))
    clear hof hri hfew hm h12
    go_enter Tryd.func3, Tryd.ntmps3
    go_wp2_with fail
    refine HFW.out.mono ?_
    rintro e0 w0 ⟨rfl, hg0⟩
    have G0 := Lib.hid hg0
    have HV0 := Lib.hid (HV.out.grown0 hg0)
    clear hg0
    go_wp2_with fail
    refine (HOF.out _ HV0.out).mono ?_
    rintro e1 w1 ⟨u, rfl, hg1, hr1⟩
    have G1 := Lib.hid (World.grownBy.trans G0.out hg1)
    have HV1 := Lib.hid (HV0.out.grown0 hg1)
    have HR1 := Lib.hid hr1
    clear hg1 hr1
    generalize hz : whyE (toldF 0 l) = z at *
    go_wp2_with fail
    refine (HTD.out _ HV1.out).mono ?_
    rintro e2 w2 ⟨v2, rfl, hr2, hg2⟩
    have G2 := Lib.hid (World.grownBy.trans G1.out hg2)
    have HR2 := Lib.hid hr2
    have HU2 := Lib.hid (HR1.out.grown0 hg2)
    have HV2 := Lib.hid (HV1.out.grown0 hg2)
    clear hg2 hr2
    go_wp2_with fail
    refine (HWH.out _ _ HR2.out).mono ?_
    rintro e3 w3 ⟨rfl, hg3⟩
    have G3 := Lib.hid (World.grownBy.trans G2.out hg3)
    have HR3 := Lib.hid (HR2.out.grown0 hg3)
    have HU3 := HU2.out.grown0 hg3
    have HV3 := Lib.hid (HV2.out.grown0 hg3)
    clear hg3
    by_cases h0 : z = 0
    · rw [if_pos h0] at HU3
      subst h0
      have HU := Lib.hid HU3
      clear HU3 hz
      go_wp2_with fail
      refine (HSM.out _ _ _ HU.out HR3.out).mono ?_
      rintro e4 w4 ⟨rfl, hg4⟩
      have G4 := Lib.hid (World.grownBy.trans G3.out hg4)
      have HV4 := Lib.hid (HV3.out.grown0 hg4)
      clear hg4
      go_wp2_with fail
      refine (HRI.out _ HV4.out).mono ?_
      rintro e5 w5 ⟨rfl, hg5⟩
      have G5 := Lib.hid (World.grownBy.trans G4.out hg5)
      clear hg5
      go_wp2_with fail
      refine (HAW.out _).mono ?_
      rintro e6 w6 ⟨rfl, hg6⟩
      go_wp2
      go_ret
      exact ⟨rfl, World.grownBy.trans G5.out hg6⟩
    · rw [if_neg h0] at HU3
      obtain ⟨A2, c2, rfl⟩ := HU3.form
      have e1 : (z == 0) = false := beq_eq_false_iff_ne.2 h0
      have e2 : (z != 0) = true := by rw [bne, e1]; rfl
      clear HU3 hz h0
      go_wp2_with fail
      refine (HRI.out _ HV3.out).mono ?_
      rintro e5 w5 ⟨rfl, hg5⟩
      have G5 := Lib.hid (World.grownBy.trans G3.out hg5)
      clear hg5
      rw [e1]
      go_wp2_with fail
      refine (HAW.out _).mono ?_
      rintro e6 w6 ⟨rfl, hg6⟩
      go_wp2
      go_ret
      exact ⟨rfl, World.grownBy.trans G5.out hg6⟩
end Go.Proofs.YtiakkfcjdmecdaaDoor
