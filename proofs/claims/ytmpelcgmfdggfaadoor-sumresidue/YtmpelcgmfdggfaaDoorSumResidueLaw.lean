/-
  The walk of the law SumResidue.
-/
import Derived.Test.YtmpelcgmfdggfaaDoorRegBytes
namespace Go.Proofs.YtmpelcgmfdggfaaDoor
open Go.RowKit

theorem st_of {v : Value} {ls : List (List UInt8)} {w0 w : World} (hT : Tab w0) (hg : w0.grownBy w none) (h : IsP ls v w) :
    Calls Tryd.prog 10 #[v] w fun e w' => ∃ u, e = .returned u ∧ w.grownBy w' none ∧ Is (.int .u32 ((crc ls.flatten).toNat : Int)) u w' := by
  obtain ⟨vs, h1, h2⟩ := h
  refine (of_any v vs ls w (hT.grown hg) h1 h2).mono ?_
  rintro e w' ⟨rfl, rfl⟩
  exact ⟨_, rfl, grown_refl _ _, rfl⟩
theorem st_ref {v : Value} {l : List UInt8} {w : World} (h : IsB l v w) :
    Calls Tryd.prog 11 #[v] w fun e w' => ∃ u, e = .returned u ∧ w.grownBy w' none ∧ Is (.int .u32 ((crc l).toNat : Int)) u w' := by
  refine (refOf_any v l w h).mono ?_
  rintro e w' ⟨rfl, rfl⟩
  exact ⟨_, rfl, grown_refl _ _, rfl⟩
theorem st_awake {w0 w : World} (hT : Tab w0) (hg : w0.grownBy w none) :
    Calls Tryd.prog 9 #[] w fun e w' => ∃ u, e = .returned u ∧ w.grownBy w' none ∧ Is (.bool true) u w' := by
  refine (awake_any w (hT.grown hg)).mono ?_
  rintro e w' ⟨rfl, h⟩
  exact ⟨_, rfl, h, rfl⟩
theorem le4_nat (X : BitVec 32) : le4 X = [UInt8.ofNat X.toNat, UInt8.ofNat (X.toNat / 2 ^ 8), UInt8.ofNat (X.toNat / 2 ^ 16), UInt8.ofNat (X.toNat / 2 ^ 24)] := by
  simp [le4, Nat.shiftRight_eq_div_pow]

set_option maxHeartbeats 1000000 in
theorem sumResidue_walk (A : Option Addr) (n c : Nat) (l : List UInt8) (w : World) (hT : Tab w) (hr : Rd w (.slice A n c) (bytesV l)) :
    Calls Tryd.prog 8 #[.slice A n c] w (Awake w) := by
  have HR := Lib.hid hr
  have HT := Lib.hid hT
  clear hr hT
  by_cases h : 3000 < n
  · have hb : decide (3000 < (n : Int)) = true := by simp; omega
    go_enter Tryd.func8, Tryd.ntmps8
    go_wp2_with fail
    refine (awake_any _ HT.out).mono ?_
    rintro e w1 ⟨rfl, hg1⟩
    go_wp2
    go_ret
    exact ⟨rfl, hg1⟩
  · have hb : decide (3000 < (n : Int)) = false := by simp; omega
    have hz := crc_residue l
    rw [le4_nat] at hz
    have HO := Lib.hid (of_one A n c l w 22 HT.out HR.out)
    generalize hX : crc l = X at *
    have HZ := Lib.hid hz
    clear hz hX
    go_enter Tryd.func8, Tryd.ntmps8
    go_wp2_with fail
    refine HO.out.mono ?_
    rintro e w1 ⟨rfl, hw⟩
    have hg1 : w.grownBy w1 none := by rw [hw]; exact grown_alloc (grown_refl _ _) _
    have HT1 := Lib.hid (HT.out.grown hg1)
    have HR1 := Lib.hid (HR.out.grown0 hg1)
    have HG1 := Lib.hid hg1
    clear hw hg1 HO
    go_wp2_with fail

    generalize X.toNat = N at *
    refine wp_region_steps none (by kernel_rfl) (by kernel_rfl) (by kernel_rfl) ?_
    refine Steps.val (G := IsB l) (lasts_bytes _) rfl (fun a w hm hd => ⟨wanted_plain rfl, _, ex_move rfl, (by rw [hm.outer 0 (by kernel_rfl)]; exact HR1.out.grown0 hm.grow)⟩) ?_
    refine Steps.val (G := Is (.int .u32 (N : Int))) (lasts_is _) rfl (fun a w hm hd => ⟨wanted_plain rfl, _, ex_move rfl, (by rw [hm.outer 3 (by kernel_rfl)]; exact rfl)⟩) ?_
    refine Steps.val (G := Is (byteV (UInt8.ofNat N))) (lasts_is _) rfl (fun a w hm hd => ⟨wanted_plain rfl, _, ex_byte rfl (hd.at_ 1 rfl rfl rfl), rfl⟩) ?_
    refine Steps.val (G := Is (.int .u32 (N : Int))) (lasts_is _) rfl (fun a w hm hd => ⟨wanted_plain rfl, _, ex_move rfl, (by rw [hm.outer 3 (by kernel_rfl)]; exact rfl)⟩) ?_
    refine Steps.val (G := Is (.int .u32 ((N / 2 ^ 8 : Nat) : Int))) (lasts_is _) rfl (fun a w hm hd => ⟨wanted_plain rfl, _, ex_shr (by decide) rfl (hd.at_ 3 rfl rfl rfl), rfl⟩) ?_
    refine Steps.val (G := Is (byteV (UInt8.ofNat (N / 2 ^ 8)))) (lasts_is _) rfl (fun a w hm hd => ⟨wanted_plain rfl, _, ex_byte rfl (hd.at_ 4 rfl rfl rfl), rfl⟩) ?_
    refine Steps.val (G := Is (.int .u32 (N : Int))) (lasts_is _) rfl (fun a w hm hd => ⟨wanted_plain rfl, _, ex_move rfl, (by rw [hm.outer 3 (by kernel_rfl)]; exact rfl)⟩) ?_
    refine Steps.val (G := Is (.int .u32 ((N / 2 ^ 16 : Nat) : Int))) (lasts_is _) rfl (fun a w hm hd => ⟨wanted_plain rfl, _, ex_shr (by decide) rfl (hd.at_ 6 rfl rfl rfl), rfl⟩) ?_
    refine Steps.val (G := Is (byteV (UInt8.ofNat (N / 2 ^ 16)))) (lasts_is _) rfl (fun a w hm hd => ⟨wanted_plain rfl, _, ex_byte rfl (hd.at_ 7 rfl rfl rfl), rfl⟩) ?_
    refine Steps.val (G := Is (.int .u32 (N : Int))) (lasts_is _) rfl (fun a w hm hd => ⟨wanted_plain rfl, _, ex_move rfl, (by rw [hm.outer 3 (by kernel_rfl)]; exact rfl)⟩) ?_
    refine Steps.val (G := Is (.int .u32 ((N / 2 ^ 24 : Nat) : Int))) (lasts_is _) rfl (fun a w hm hd => ⟨wanted_plain rfl, _, ex_shr (by decide) rfl (hd.at_ 9 rfl rfl rfl), rfl⟩) ?_
    refine Steps.val (G := Is (byteV (UInt8.ofNat (N / 2 ^ 24)))) (lasts_is _) rfl (fun a w hm hd => ⟨wanted_plain rfl, _, ex_byte rfl (hd.at_ 10 rfl rfl rfl), rfl⟩) ?_
    refine Steps.make (G := IsB [UInt8.ofNat N, UInt8.ofNat (N / 2 ^ 8), UInt8.ofNat (N / 2 ^ 16), UInt8.ofNat (N / 2 ^ 24)]) (lasts_bytes _) rfl (fun a w hm hd => ⟨wanted_plain rfl, _, _, ex_build4 rfl (hd.at_ 2 rfl rfl rfl) (hd.at_ 5 rfl rfl rfl) (hd.at_ 8 rfl rfl rfl) (hd.at_ 11 rfl rfl rfl), grown_alloc (grown_refl _ _) _, Rd.new w (bytesV [_, _, _, _]) _ (0, 0) 4 (by simp [bytesV]) (by decide)⟩) ?_
    refine Steps.make (G := IsP [l, [UInt8.ofNat N, UInt8.ofNat (N / 2 ^ 8), UInt8.ofNat (N / 2 ^ 16), UInt8.ofNat (N / 2 ^ 24)]]) (lasts_parts _) rfl (fun a w hm hd => ⟨wanted_plain rfl, _, _, ex_build2 rfl (hd.at_ 0 rfl rfl rfl) (hd.at_ 12 rfl rfl rfl) rfl rfl, grown_alloc (grown_refl _ _) _, ⟨_, Rd.new w [_, _] _ (0, 0) 2 (Nat.le_refl _) (by decide), Parts.cons (Rd.alloc (hd.at_ 0 rfl rfl rfl) _) (Parts.cons (Rd.alloc (hd.at_ 12 rfl rfl rfl) _) (Parts.nil _))⟩⟩) ?_
    refine Steps.call (G := Is (.int .u32 ((crc [l, [UInt8.ofNat N, UInt8.ofNat (N / 2 ^ 8), UInt8.ofNat (N / 2 ^ 16), UInt8.ofNat (N / 2 ^ 24)]].flatten).toNat : Int))) (lasts_is _) rfl 10 (fun a w hm hd => ⟨wanted_plain rfl, _, ex_call1 Tryd.func10 (by kernel_rfl) (by kernel_rfl) rfl, st_of HT1.out hm.grow (hd.at_ 13 rfl rfl rfl)⟩) ?_
    refine Steps.make (G := IsB [0, 0, 0, 0]) (lasts_bytes _) rfl (fun a w hm hd => ⟨wanted_plain rfl, _, ex_make (n := 4) rfl rfl rfl (by decide)⟩) ?_
    refine Steps.call (G := Is (.int .u32 ((crc [0, 0, 0, 0]).toNat : Int))) (lasts_is _) rfl 11 (fun a w hm hd => ⟨wanted_plain rfl, _, ex_call1 Tryd.func11 (by kernel_rfl) (by kernel_rfl) rfl, st_ref (hd.at_ 15 rfl rfl rfl)⟩) ?_
    have hfl : [l, [UInt8.ofNat N, UInt8.ofNat (N / 2 ^ 8), UInt8.ofNat (N / 2 ^ 16), UInt8.ofNat (N / 2 ^ 24)]].flatten = l ++ [UInt8.ofNat N, UInt8.ofNat (N / 2 ^ 8), UInt8.ofNat (N / 2 ^ 16), UInt8.ofNat (N / 2 ^ 24)] := by simp
    rw [hfl, HZ.out]
    generalize crc [0, 0, 0, 0] = Z at *
    refine Steps.val (G := Is (.bool true)) (lasts_is _) rfl (fun a w hm hd => ⟨wanted_plain rfl, _, ex_eq32 rfl (hd.at_ 14 rfl rfl rfl) (hd.at_ 16 rfl rfl rfl), rfl⟩) ?_
    refine Steps.val (G := Is (.bool true)) (lasts_is _) rfl (fun a w hm hd => ⟨wanted_plain rfl, _, ex_move rfl, (hd.at_ 17 rfl rfl rfl)⟩) ?_
    refine Steps.call (G := Is (.bool true)) (lasts_is _) rfl 9 (fun a w hm hd => ⟨wanted_at rfl rfl (hd.at_ 18 rfl rfl rfl), _, ex_call0 Tryd.func9 (by kernel_rfl) (by kernel_rfl) rfl, st_awake HT1.out hm.grow⟩) ?_
    refine Steps.val (G := Is (.bool true)) (lasts_is _) rfl (fun a w hm hd => ⟨wanted_plain rfl, _, ex_pick rfl (hd.at_ 18 rfl rfl rfl) (hd.at_ 19 rfl rfl rfl), rfl⟩) ?_
    refine Steps.val (G := Is (.bool true)) (lasts_is _) rfl (fun a w hm hd => ⟨wanted_plain rfl, _, ex_assign rfl, (hd.at_ 20 rfl rfl rfl)⟩) ?_
    intro a w2 hmid hall
    have h2 : a.eval (.tmp 2) = .bool true := hall 21 _ 2 rfl rfl
    have hdf : a.defers = [] := hmid.defers
    have hgr := hmid.grow
    clear hall hmid
    obtain ⟨tm, df⟩ := a
    simp only at hdf
    subst hdf
    go_wp2
    go_ret
    exact ⟨congrArg Ending.returned h2, HG1.out.trans hgr⟩
end Go.Proofs.YtmpelcgmfdggfaaDoor
