/-
  coder's Reader's Bit, Even and Tree over this program.
-/
import Derived.Test.YtohndlfekecfoaaCodRt
namespace Go.Proofs.Ytohndlfekecfoaa
set_option maxRecDepth 1000000
open Go.RowKit

/-- What a reader's Bit answers. -/
def RBOut (g : Nat) (vb : Option Nat) (gc : Nat) (t : TypeId) (p : Bool × Rst × List Nat) (w : World) (e : Ending) (w' : World) : Prop :=
  e = .returned (.int .i64 (p.1.toNat : Int)) ∧ Rs w' g vb p.2.1 ∧ Row w' gc t (chV p.2.2) ∧ Wn [g, gc] w none w' none
set_option maxHeartbeats 4000000 in
theorem rbit_at (g : Nat) (vb : Option Nat) (r : Rst) (gc j : Nat) (t : TypeId) (l : List Nat) (w : World) (h : Rs w g vb r) (hs : Okr r) (hr : Row w gc t (chV l)) (hj : j < l.length) (hok : Okl l) (hne : gc ≠ g ∧ vb ≠ some gc) :
    Calls Try.prog 18 #[.pointer (some ⟨g, 0, none⟩), .pointer (some ⟨gc, j, none⟩)] w (RBOut g vb gc t (bitR r l j) w) := by
  have HW := Lib.hid h
  have HR := Lib.hid hr
  have HNE := Lib.hid hne
  have HOP := Lib.hid (opened_at g vb r w h (by have := hs.wide; omega))
  obtain ⟨v, hrow, _⟩ := h
  have HROW := Lib.hid hrow
  have HC := Lib.hid (chV_at l j hj)
  have hcb := boundR_ok hs (hok.at_ hj)
  obtain ⟨k1, k2⟩ := hok.at_ hj
  have HP := Lib.hid (fun W => Val.made (bound_any (l.getD j 0) r.width (by omega) hs.most W))
  obtain ⟨bd, hbd⟩ : ∃ bd, bd = r.width / 2048 * l.getD j 0 := ⟨_, rfl⟩
  rw [← hbd] at hcb HP
  have HTK := Lib.hid (fun W (hW : Rs W g vb r) => take_at g vb r bd W hW hs hcb.1 hcb.2)
  have HBR := Lib.hid (show bitR r l j = ((takeR r bd).1, (takeR r bd).2, l.set j (saw (l.getD j 0) (takeR r bd).1)) by rw [hbd]; rfl)
  obtain ⟨z, hz⟩ : ∃ z : Int, z = ((l.getD j 0 : Nat) - 1024 : Int) := ⟨_, rfl⟩
  rw [← hz] at HC HP
  have HLN := Lib.hid (fun W (hW : Row W gc t (chV l)) => learn_at gc j t l (((takeR r bd).1.toNat : Nat) : Int) W hW hj hok)
  rw [bit_dec] at HLN
  rw [HBR.out]
  generalize takeR r bd = TR at *
  clear hs hr hj hok hne k1 k2 hbd hz hrow hcb
  go_enter Try.func18, Try.ntmps18
  go_wp2_with fail
  refine HOP.out.mono ?_
  rintro e w1 ⟨rfl, hw1⟩
  obtain rfl := hw1.symm
  go_wp2
  refine wp_region_walk3 9 [] dis_nil (by kernel_rfl) (by kernel_rfl) (by kernel_rfl) ?_
  simp only [List.take_succ_cons, List.take_zero, List.drop_succ_cons, List.drop_zero]
  refine Walk.val (G := Is (.pointer (some ⟨g, 0, none⟩))) (stays_is _ _) rfl rfl (fun a w hm hd => ⟨wanted_plain rfl, st_move rfl (by rw [hm.outer 0 (by kernel_rfl)]; rfl)⟩) ?_
  refine Walk.val (G := Is (.pointer (some ⟨gc, j, none⟩))) (stays_is _ _) rfl rfl (fun a w hm hd => ⟨wanted_plain rfl, st_move rfl (by rw [hm.outer 1 (by kernel_rfl)]; rfl)⟩) ?_
  refine Walk.val (G := Is (.pointer (some ⟨gc, j, none⟩))) (stays_is _ _) rfl rfl (fun a w hm hd => ⟨wanted_plain rfl, st_nil rfl (hd.at_ 1 rfl rfl rfl rfl)⟩) ?_
  refine Walk.val (G := Is (.agg #[.int .i16 z])) (stays_is _ _) rfl rfl (fun a w hm hd => ⟨wanted_plain rfl, ⟨_, ex_loadC rfl gc j t _ z (hd.at_ 2 rfl rfl rfl rfl) (HR.out.grown0 (GrownX.none2 hm.grow)) HC.out, rfl⟩⟩) ?_
  refine Walk.val (G := Is (.pointer (some ⟨g, 0, none⟩))) (stays_is _ _) rfl rfl (fun a w hm hd => ⟨wanted_plain rfl, st_move rfl (by rw [hm.outer 0 (by kernel_rfl)]; rfl)⟩) ?_
  refine Walk.val (G := Is (.pointer (some ⟨g, 0, none⟩))) (stays_is _ _) rfl rfl (fun a w hm hd => ⟨wanted_plain rfl, st_nil rfl (hd.at_ 4 rfl rfl rfl rfl)⟩) ?_
  refine Walk.val (G := Is (.pointer (some ⟨g, 2, none⟩))) (stays_is _ _) rfl rfl (fun a w hm hd => ⟨wanted_plain rfl, st_fieldR2 rfl (hd.at_ 5 rfl rfl rfl rfl)⟩) ?_
  refine Walk.val (G := Is (.int .u32 (r.width : Int))) (stays_is _ _) rfl rfl (fun a w hm hd => ⟨wanted_plain rfl, st_cell rfl (fun _ => by kernel_rfl) (hd.at_ 6 rfl rfl rfl rfl) ((HROW.out.grown0 (GrownX.none2 hm.grow)).cell (j := 2) rfl)⟩) ?_
  refine Walk.call (G := Is (.int .u32 (bd : Int))) (stays_is _ _) rfl 23 rfl (fun a w hm ha hd => ⟨wanted_plain rfl, _, ex_call2 Try.func23 (by kernel_rfl) (by kernel_rfl) rfl, by rw [show a.eval (.tmp 16) = _ from (hd.at_ 3 rfl rfl rfl rfl), show a.eval (.tmp 20) = _ from (hd.at_ 7 rfl rfl rfl rfl)]; exact HP.out w⟩) ?_
  intro a9 V9 hm9 hall
  have f13 : Is (.pointer (some ⟨g, 0, none⟩)) (a9.eval (.tmp 13)) V9 := hall 0 _ _ rfl rfl
  have f14 : Is (.pointer (some ⟨gc, j, none⟩)) (a9.eval (.tmp 14)) V9 := hall 1 _ _ rfl rfl
  have f15 : Is (.pointer (some ⟨gc, j, none⟩)) (a9.eval (.tmp 15)) V9 := hall 2 _ _ rfl rfl
  have f16 : Is (.agg #[.int .i16 z]) (a9.eval (.tmp 16)) V9 := hall 3 _ _ rfl rfl
  have f17 : Is (.pointer (some ⟨g, 0, none⟩)) (a9.eval (.tmp 17)) V9 := hall 4 _ _ rfl rfl
  have f18 : Is (.pointer (some ⟨g, 0, none⟩)) (a9.eval (.tmp 18)) V9 := hall 5 _ _ rfl rfl
  have f19 : Is (.pointer (some ⟨g, 2, none⟩)) (a9.eval (.tmp 19)) V9 := hall 6 _ _ rfl rfl
  have f20 : Is (.int .u32 (r.width : Int)) (a9.eval (.tmp 20)) V9 := hall 7 _ _ rfl rfl
  have f21 : Is (.int .u32 (bd : Int)) (a9.eval (.tmp 21)) V9 := hall 8 _ _ rfl rfl
  have hfr := hm9.frame
  simp only [List.take_succ_cons, List.take_zero, List.filterMap_cons, List.filterMap_nil, List.foldl_cons, List.foldl_nil] at hfr
  have hgV9 := GrownX.none2 hm9.grow
  have f13 : a9.eval (.tmp 13) = _ := f13
  rw [f13] at hfr
  have f14 : a9.eval (.tmp 14) = _ := f14
  rw [f14] at hfr
  have f15 : a9.eval (.tmp 15) = _ := f15
  rw [f15] at hfr
  have f16 : a9.eval (.tmp 16) = _ := f16
  rw [f16] at hfr
  have f17 : a9.eval (.tmp 17) = _ := f17
  rw [f17] at hfr
  have f18 : a9.eval (.tmp 18) = _ := f18
  rw [f18] at hfr
  have f19 : a9.eval (.tmp 19) = _ := f19
  rw [f19] at hfr
  have f20 : a9.eval (.tmp 20) = _ := f20
  rw [f20] at hfr
  have f21 : a9.eval (.tmp 21) = _ := f21
  rw [f21] at hfr
  clear hall hm9
  have H9 := Lib.hid (HW.out.grown0 hgV9)
  have R9 := Lib.hid (HR.out.grown0 hgV9)
  have G9 := Lib.hid hgV9
  clear hgV9
  clear f13
  clear f14
  clear f15
  clear f16
  clear f17
  clear f18
  clear f19
  clear f20
  clear f21
  unfold wpList
  rw [hfr]
  clear hfr
  go_simp
  go_wp2_with fail
  refine .inl ((HTK.out V9 H9.out).mono ?_)
  rintro e w2 ⟨rfl, ht2, hg2⟩
  have HT2 := Lib.hid ht2
  have HN2 := Lib.hid (((Wn.refl [g, gc] w none).grown0 G9.out).grown hg2 (fun b e => by cases e; exact .inl (by simp)))
  have HR2 := Lib.hid (R9.out.grown hg2 (fun e => by cases e; exact HNE.out.1 rfl))
  clear ht2 hg2
  go_wp2_with fail
  refine (HLN.out w2 HR2.out).mono ?_
  rintro e w3 ⟨rfl, hr3, hg3⟩
  have HE := Lib.hid (And.intro hr3 hg3)
  clear hr3 hg3
  go_wp2
  go_ret
  refine ⟨rfl, ?_, HE.out.1, ?_⟩
  · exact HT2.out.grown HE.out.2 (by intro e; cases e; exact HNE.out.1 rfl) (fun b hb e => by cases e; exact HNE.out.2 hb)
  · exact HN2.out.grown HE.out.2 (fun b e => by cases e; exact .inl (by simp))

/-- What a reader's Even answers. -/
def REOut (g : Nat) (vb : Option Nat) (p : Nat × Rst) (w : World) (e : Ending) (w' : World) : Prop := e = .returned (.int .i64 (p.1 : Int)) ∧ Rs w' g vb p.2 ∧ w.grownBy w' (some g)
end Go.Proofs.Ytohndlfekecfoaa
