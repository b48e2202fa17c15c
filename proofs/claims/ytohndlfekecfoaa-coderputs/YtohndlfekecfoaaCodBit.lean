/-
  coder's Writer's Bit over this program.
-/
import Derived.Test.YtohndlfekecfoaaCodB
namespace Go.Proofs.Ytohndlfekecfoaa
set_option maxRecDepth 1000000
open Go.RowKit

def SameW (v : Value) (w : World) (e : Ending) (w' : World) : Prop := e = .returned v ∧ w' = w
set_option maxHeartbeats 400000 in
theorem begun_nil (w : World) : Calls Try.prog 21 #[.pointer none] w (SameW (.bool false) w) := by
  go_enter Try.func21, Try.ntmps21
  go_wp2
  go_ret
  exact ⟨rfl, rfl⟩
set_option maxHeartbeats 400000 in
theorem begun_at (g : Nat) (vb : Option Nat) (s : Cst) (w : World) (h : Wt w g vb s) : Calls Try.prog 21 #[.pointer (some ⟨g, 0, none⟩)] w (SameW (.bool (decide (0 < s.width))) w) := by
  obtain ⟨v, hrow, _⟩ := h
  have r2 := hrow.cell (j := 2) rfl
  clear hrow
  generalize s.width = m at *
  by_cases hm : 0 < m
  · have hd : decide (0 < (m : Int)) = true := by simp; omega
    have hd' : decide (0 < m) = true := by simp; omega
    go_enter Try.func21, Try.ntmps21
    go_wp2
    go_ret
    exact ⟨by rw [hd']; rfl, rfl⟩
  · have hd : decide (0 < (m : Int)) = false := by simp; omega
    have hd' : decide (0 < m) = false := by simp; omega
    go_enter Try.func21, Try.ntmps21
    go_wp2
    go_ret
    exact ⟨by rw [hd']; rfl, rfl⟩

/-- What a writer's Bit answers. -/
def BOut (g : Nat) (vb : Option Nat) (gc : Nat) (t : TypeId) (p : Cst × List Nat) (w : World) (e : Ending) (w' : World) : Prop :=
  e = .returned (.tuple #[]) ∧ ∃ vb', Wt w' g vb' p.1 ∧ Row w' gc t (chV p.2) ∧ Wn [g, gc] w vb w' vb'
set_option maxHeartbeats 4000000 in
theorem bit_at (g : Nat) (vb : Option Nat) (s : Cst) (gc j : Nat) (t : TypeId) (l : List Nat) (q : Int) (w : World) (h : Wt w g vb s) (hs : Okc s) (hl : s.out.length ≤ 900000000) (hr : Row w gc t (chV l)) (hj : j < l.length) (hok : Okl l) (hne : gc ≠ g ∧ vb ≠ some gc) :
    Calls Try.prog 8 #[.pointer (some ⟨g, 0, none⟩), .pointer (some ⟨gc, j, none⟩), .int .i64 q] w (BOut g vb gc t (bitS s l j (decide (q ≠ 0))) w) := by
  have HW := Lib.hid h
  have HS := Lib.hid hs
  have HL := Lib.hid hl
  have HR := Lib.hid hr
  have HJ := Lib.hid hj
  have HOK := Lib.hid hok
  have HNE := Lib.hid hne
  have HBG := Lib.hid (begun_at g vb s w h)
  rw [show decide (0 < s.width) = true by have := hs.wide; simp; omega] at HBG
  obtain ⟨v, hrow, _⟩ := h
  have HROW := Lib.hid hrow
  have HC := Lib.hid (chV_at l j hj)
  have HCB := Lib.hid (bound_ok hs (hok.at_ hj))
  obtain ⟨k1, k2⟩ := hok.at_ hj
  have HP := Lib.hid (fun W => Val.made (bound_any (l.getD j 0) s.width (by omega) hs.most W))
  obtain ⟨bd, hbd⟩ : ∃ bd, bd = s.width / 2048 * l.getD j 0 := ⟨_, rfl⟩
  rw [← hbd] at HCB HP
  have HBD := Lib.hid hbd
  obtain ⟨z, hz⟩ : ∃ z : Int, z = ((l.getD j 0 : Nat) - 1024 : Int) := ⟨_, rfl⟩
  rw [← hz] at HC HP
  have HPUT := Lib.hid (fun W (hW : Wt W g vb s) => put_at g vb s bd q W hW HS.out HCB.out HL.out)
  have HLN := Lib.hid (fun W (hW : Row W gc t (chV l)) => learn_at gc j t l q W hW HJ.out HOK.out)
  obtain ⟨bb, hbb⟩ : ∃ bb, bb = decide (q ≠ 0) := ⟨_, rfl⟩
  rw [← hbb] at HPUT HLN
  rw [← hbb]
  clear hs hl hr hj hok hne k1 k2 hbd hz hrow hbb
  go_enter Try.func8, Try.ntmps8
  go_wp2_with fail
  refine HBG.out.mono ?_
  rintro e w1 ⟨rfl, hw1⟩
  obtain rfl := hw1.symm
  go_wp2
  refine wp_region_walk3 10 [] dis_nil (by kernel_rfl) (by kernel_rfl) (by kernel_rfl) ?_
  simp only [List.take_succ_cons, List.take_zero, List.drop_succ_cons, List.drop_zero]
  refine Walk.val (G := Is (.pointer (some ⟨g, 0, none⟩))) (stays_is _ _) rfl rfl (fun a w hm hd => ⟨wanted_plain rfl, st_move rfl (by rw [hm.outer 0 (by kernel_rfl)]; rfl)⟩) ?_
  refine Walk.val (G := Is (.pointer (some ⟨gc, j, none⟩))) (stays_is _ _) rfl rfl (fun a w hm hd => ⟨wanted_plain rfl, st_move rfl (by rw [hm.outer 1 (by kernel_rfl)]; rfl)⟩) ?_
  refine Walk.val (G := Is (.pointer (some ⟨gc, j, none⟩))) (stays_is _ _) rfl rfl (fun a w hm hd => ⟨wanted_plain rfl, st_nil rfl (hd.at_ 1 rfl rfl rfl rfl)⟩) ?_
  refine Walk.val (G := Is (.agg #[.int .i16 z])) (stays_is _ _) rfl rfl (fun a w hm hd => ⟨wanted_plain rfl, ⟨_, ex_loadC rfl gc j t _ z (hd.at_ 2 rfl rfl rfl rfl) (HR.out.grown0 (GrownX.none2 hm.grow)) HC.out, rfl⟩⟩) ?_
  refine Walk.val (G := Is (.pointer (some ⟨g, 0, none⟩))) (stays_is _ _) rfl rfl (fun a w hm hd => ⟨wanted_plain rfl, st_move rfl (by rw [hm.outer 0 (by kernel_rfl)]; rfl)⟩) ?_
  refine Walk.val (G := Is (.pointer (some ⟨g, 0, none⟩))) (stays_is _ _) rfl rfl (fun a w hm hd => ⟨wanted_plain rfl, st_nil rfl (hd.at_ 4 rfl rfl rfl rfl)⟩) ?_
  refine Walk.val (G := Is (.pointer (some ⟨g, 2, none⟩))) (stays_is _ _) rfl rfl (fun a w hm hd => ⟨wanted_plain rfl, st_fieldW2 rfl (hd.at_ 5 rfl rfl rfl rfl)⟩) ?_
  refine Walk.val (G := Is (.int .u32 (s.width : Int))) (stays_is _ _) rfl rfl (fun a w hm hd => ⟨wanted_plain rfl, st_cell rfl (fun _ => by kernel_rfl) (hd.at_ 6 rfl rfl rfl rfl) ((HROW.out.grown0 (GrownX.none2 hm.grow)).cell (j := 2) rfl)⟩) ?_
  refine Walk.call (G := Is (.int .u32 (bd : Int))) (stays_is _ _) rfl 23 rfl (fun a w hm ha hd => ⟨wanted_plain rfl, _, ex_call2 Try.func23 (by kernel_rfl) (by kernel_rfl) rfl, by rw [show a.eval (.tmp 16) = _ from (hd.at_ 3 rfl rfl rfl rfl), show a.eval (.tmp 20) = _ from (hd.at_ 7 rfl rfl rfl rfl)]; exact HP.out w⟩) ?_
  refine Walk.val (G := Is (.int .i64 q)) (stays_is _ _) rfl rfl (fun a w hm hd => ⟨wanted_plain rfl, st_move rfl (by rw [hm.outer 2 (by kernel_rfl)]; rfl)⟩) ?_
  intro a9 V9 hm9 hall
  have f13 : Is (.pointer (some ⟨g, 0, none⟩)) (a9.eval (.tmp 13)) V9 := hall 0 _ _ rfl rfl
  have f14 : Is (.pointer (some ⟨gc, j, none⟩)) (a9.eval (.tmp 14)) V9 := hall 1 _ _ rfl rfl
  have f15 : Is (.pointer (some ⟨gc, j, none⟩)) (a9.eval (.tmp 15)) V9 := hall 2 _ _ rfl rfl
  have f16 : Is (.agg #[.int .i16 z]) (a9.eval (.tmp 16)) V9 := hall 3 _ _ rfl rfl
  have f17 : Is (.pointer (some ⟨g, 0, none⟩)) (a9.eval (.tmp 17)) V9 := hall 4 _ _ rfl rfl
  have f18 : Is (.pointer (some ⟨g, 0, none⟩)) (a9.eval (.tmp 18)) V9 := hall 5 _ _ rfl rfl
  have f19 : Is (.pointer (some ⟨g, 2, none⟩)) (a9.eval (.tmp 19)) V9 := hall 6 _ _ rfl rfl
  have f20 : Is (.int .u32 (s.width : Int)) (a9.eval (.tmp 20)) V9 := hall 7 _ _ rfl rfl
  have f21 : Is (.int .u32 (bd : Int)) (a9.eval (.tmp 21)) V9 := hall 8 _ _ rfl rfl
  have f22 : Is (.int .i64 q) (a9.eval (.tmp 22)) V9 := hall 9 _ _ rfl rfl
  have hfr := hm9.frame
  simp only [List.take_succ_cons, List.take_zero, List.filterMap_cons, List.filterMap_nil, List.foldl_cons, List.foldl_nil] at hfr
  have hgV9 := GrownX.none2 hm9.grow
  have f13 : a9.eval (.tmp 13) = _ := f13
  rw [f13] at hfr
  have f14 : a9.eval (.tmp 14) = _ := f14
  rw [f14] at hfr
  have f15 : a9.eval (.tmp 15) = _ := f15
  rw [f15] at hfr
  have f16 : a9.eval (.tmp 16) = _ := f16
  rw [f16] at hfr
  have f17 : a9.eval (.tmp 17) = _ := f17
  rw [f17] at hfr
  have f18 : a9.eval (.tmp 18) = _ := f18
  rw [f18] at hfr
  have f19 : a9.eval (.tmp 19) = _ := f19
  rw [f19] at hfr
  have f20 : a9.eval (.tmp 20) = _ := f20
  rw [f20] at hfr
  have f21 : a9.eval (.tmp 21) = _ := f21
  rw [f21] at hfr
  have f22 : a9.eval (.tmp 22) = _ := f22
  rw [f22] at hfr
  clear hall hm9
  have H9 := Lib.hid (HW.out.grown0 hgV9)
  have R9 := Lib.hid (HR.out.grown0 hgV9)
  have G9 := Lib.hid hgV9
  clear hgV9
  clear f13
  clear f14
  clear f15
  clear f16
  clear f17
  clear f18
  clear f19
  clear f20
  clear f21
  clear f22
  unfold wpList
  rw [hfr]
  clear hfr
  go_simp
  go_wp2_with fail
  refine .inl ((HPUT.out V9 H9.out).mono ?_)
  rintro e w2 ⟨rfl, vb', ht2, hn2⟩
  have HT2 := Lib.hid ht2
  have HN2 := Lib.hid (((Wn.refl [g] w vb).grown0 G9.out).trans hn2)
  have HR2 := Lib.hid (R9.out.wn hn2 (fun e => HNE.out.1 (List.mem_singleton.1 e)) (fun e => HNE.out.2 e.symm))
  clear ht2 hn2
  go_wp2_with fail
  refine (HLN.out w2 HR2.out).mono ?_
  rintro e w3 ⟨rfl, hr3, hg3⟩
  have HE := Lib.hid (And.intro hr3 hg3)
  clear hr3 hg3
  go_wp2
  refine bodyPost_end (results_none rfl _ _ _) rfl ?_
  have hvb' : vb' ≠ some gc := by
    rcases HN2.out.row with e | ⟨b, e, hb⟩
    · rw [e]; exact HNE.out.2
    · rw [e]; intro e2; cases e2; have := HR.out.lt; omega
  refine ⟨rfl, vb', ?_, HE.out.1, ?_⟩
  · have := HT2.out.grown HE.out.2 (by intro e; cases e; exact HNE.out.1 rfl) (fun b hb e => by cases e; exact hvb' hb)
    rw [HBD.out] at this
    exact this
  · exact (HN2.out.mono (fun k hk => by simp at hk; simp [hk])).grown HE.out.2 (fun b e => by cases e; exact .inl (by simp))
end Go.Proofs.Ytohndlfekecfoaa
