/-
  pack's model over this program: a token is put.
-/
import Derived.Test.YtibofgokdjbomaaPkTreeM
import Derived.Test.YtibofgokdjbomaaMCodW
namespace Go.Proofs.Ytibofgokdjbomaa
set_option maxRecDepth 1000000
open Go.RowKit

section
variable {o : Oper} {a : Act} {w : World}
theorem st_loadK {x : Operand} {g : Nat} {t : Tok} (h : o.op = .load 37 x) (hx : Is (.pointer (some ⟨g, 0, none⟩)) (a.eval x) w) (hr : Row w g 37 (tokC t)) : Runs (Is (tokV t)) o a w :=
  ⟨_, ex_load_row h g 37 _ _ hx hr Try.underlying37 rfl (by kernel_rfl), rfl⟩
theorem st_fieldT0 {x : Operand} {g : Nat} (h : o.op = .fieldAddr 37 x 0) (hx : Is (.pointer (some ⟨g, 0, none⟩)) (a.eval x) w) : Runs (Is (.pointer (some ⟨g, 0, none⟩))) o a w := by
  have hx' : a.eval x = .pointer (some ⟨g, 0, none⟩) := hx
  refine ⟨_, ?_, rfl⟩
  simp only [execOp, h, hx']
  kernel_rfl
theorem st_fieldT1 {x : Operand} {g : Nat} (h : o.op = .fieldAddr 37 x 1) (hx : Is (.pointer (some ⟨g, 0, none⟩)) (a.eval x) w) : Runs (Is (.pointer (some ⟨g, 1, none⟩))) o a w := by
  have hx' : a.eval x = .pointer (some ⟨g, 0, none⟩) := hx
  refine ⟨_, ?_, rfl⟩
  simp only [execOp, h, hx']
  kernel_rfl
end
/-- A token is being put. -/
structure PuS (w W : World) (g gm gt : Nat) (v0 vb : Option Nat) (S : Cst) (x : Kst) (t : Tok) : Prop where
  wt : Wt W g vb S
  mo : Mo W gm x
  tk : Row W gt 37 (tokC t)
  ne : gm ≠ g ∧ gt ≠ g ∧ gt ≠ gm ∧ vb ≠ some gm ∧ vb ≠ some gt
  wn : Wn [g, gm] w v0 W vb
section
variable {w W W' : World} {g gm gt : Nat} {v0 vb vb' : Option Nat} {S S' : Cst} {x : Kst} {t : Tok}
theorem PuS.grown0 (h : PuS w W g gm gt v0 vb S x t) (hg : W.grownBy W' none) : PuS w W' g gm gt v0 vb S x t := ⟨h.wt.grown0 hg, h.mo.grown0 hg, h.tk.grown0 hg, h.ne, h.wn.grown0 hg⟩
theorem PuS.step {L : List Nat} (h : PuS w W g gm gt v0 vb S x t) (ht : Wt W' g vb' S') (hm : Row W' gm 87 (chR (modR x.kind x.h) L)) (hn : Wn [g, gm] W vb W' vb') : PuS w W' g gm gt v0 vb' S' ⟨L, x.kind, x.h⟩ t := by
  obtain ⟨n1, n2, n3, n4, n5⟩ := h.ne
  have hrow : ∀ b, vb' = some b → vb = some b ∨ W.heap.size ≤ b := fun b hb => by
    rcases hn.row with e | ⟨k, e, hk⟩
    · rw [e] at hb; exact .inl hb
    · rw [e] at hb; cases hb; exact .inr hk
  refine ⟨ht, hm, h.tk.wn hn (by simp; exact ⟨n2, n3⟩) (fun e => n5 e.symm), ⟨n1, n2, n3, fun e => ?_, fun e => ?_⟩, h.wn.trans hn⟩
  · rcases hrow _ e with e2 | e2
    · exact n4 e2
    · have := h.mo.lt; omega
  · rcases hrow _ e with e2 | e2
    · exact n5 e2
    · have := h.tk.lt; omega
theorem PuS.even (h : PuS w W g gm gt v0 vb S x t) (ht : Wt W' g vb' S') (hn : Wn [g] W vb W' vb') : PuS w W' g gm gt v0 vb' S' x t := by
  obtain ⟨n1, n2, n3, n4, n5⟩ := h.ne
  exact h.step ht (Row.wn h.mo hn (by simpa using n1) (fun e => n4 e.symm)) (hn.mono (fun k hk => by simp at hk; simp [hk]))
end
/-- What a model's put leaves. -/
def PuOut (g gm : Nat) (v0 : Option Nat) (x : Kst) (t : Tok) (p : Cst × List Nat) (w : World) (e : Ending) (w' : World) : Prop :=
  e = .returned (.tuple #[]) ∧ ∃ vb', Wt w' g vb' p.1 ∧ Mo w' gm ⟨p.2, x.kind, x.h⟩ ∧ Wn [g, gm] w v0 w' vb' ∧ vb' ≠ some gm
set_option maxHeartbeats 8000000 in
theorem putM_at (g : Nat) (vb : Option Nat) (s : Cst) (gm : Nat) (x : Kst) (t : Tok) (w : World) (hw : Wt w g vb s) (hs : Okw s) (hl : s.out.length ≤ 700000000) (h : Mo w gm x) (hx : Okk x) (ht : right t = true) (hn : x.h.length ≤ 100000) (hne : gm ≠ g ∧ vb ≠ some gm) :
    Calls Try.prog 48 #[.pointer (some ⟨gm, 0, none⟩), .pointer (some ⟨g, 0, none⟩), tokV t] w (PuOut g gm vb x t (putT s x t) w) := by
  obtain ⟨r1, r2, r3, r4, r5, r6⟩ := right_len ht
  obtain ⟨gt, hgt⟩ : ∃ gt, w.heap.size = gt := ⟨_, rfl⟩
  obtain ⟨W1, hW1⟩ : ∃ W, w.alloc (.cells #[.int .u8 (t.lit.toNat : Int), .int .i64 t.len, .int .i64 t.back] 37) = W := ⟨_, rfl⟩
  have hg1 : w.grownBy W1 none := by rw [← hW1]; exact grown_alloc (grown_refl _ _) _
  have HP := Lib.hid (show PuS w W1 g gm gt vb vb s x t from ⟨hw.grown0 hg1, h.grown0 hg1, by rw [← hW1]; exact Row.newAt w _ (tokC t) hgt, ⟨hne.1, fun e => by have := hw.lt; omega, fun e => by have := h.lt; omega, hne.2, fun e => by have := hw.row_lt gt e; omega⟩, (Wn.refl _ _ _).grown0 hg1⟩)
  have HX := Lib.hid hx
  have HN := Lib.hid hn
  have HLT := Lib.hid (UInt8.toNat_lt t.lit)
  have HS := Lib.hid hs
  have HSL := Lib.hid hl
  have HR := Lib.hid (right_len ht)
  have HBIT := Lib.hid (fun W (hP : PuS w W g gm gt vb vb s x t) => bit_in (modR x.kind x.h) g vb s gm x.kind 87 x.L (kindN t : Int) W hP.wt hs.ok (by omega) hP.mo (kind_lt hx) hx.l ⟨hne.1, hne.2⟩)
  rw [show decide ((kindN t : Int) ≠ 0) = decide (0 < t.len) by unfold kindN; split <;> simp [*]] at HBIT
  have HB1 := Lib.hid (bitS_okw (decide (0 < t.len)) hs hx.l (kind_lt hx))
  have HB2 := Lib.hid ((bitS_len s x.L x.kind (decide (0 < t.len))).trans hx.len)
  have HB3 := Lib.hid (show (bitS s x.L x.kind (decide (0 < t.len))).1.out.length ≤ 700000001 by have := putS_len s (s.width / 2048 * x.L.getD x.kind 0) (decide (0 < t.len)); show (putS _ _ _).out.length ≤ _; omega)
  have HPT := Lib.hid (show putT s x t = putT s x t from rfl)
  unfold putT
  have hbt : ∀ b, decide (0 < t.len) = b → bitS s x.L x.kind b = bitS s x.L x.kind (decide (0 < t.len)) := fun b hb => by rw [hb]
  clear hw hs hl h hx ht hn hne hg1
  by_cases hz : 0 < t.len
  · rw [if_pos hz, hbt true (by simpa using hz)]
    clear hbt HPT
    have hk1 : kindN t = 1 := by unfold kindN; rw [if_pos hz]
    rw [hk1, show ((1 : Nat) : Int) = 1 from rfl] at HBIT
    obtain ⟨k, hk⟩ : ∃ k : Nat, t.back - 1 = (k : Int) := ⟨(t.back - 1).toNat, by have := r6 (by omega); omega⟩
    rw [hk, Int.toNat_natCast]
    have hk15 : k < 32768 := by omega
    generalize bitS s x.L x.kind (decide (0 < t.len)) = S1 at *
    have HB4 := Lib.hid (treeB_okw (t.len - 3) 2050 256 8 1 HB1.out.1 HB1.out.2 (by rw [HB2.out]; decide) (by decide))
    have HB5 := Lib.hid ((treeB_len (t.len - 3) 2050 8 1 S1.1 S1.2).1.trans HB2.out)
    have HB6 := Lib.hid (show (treeB S1.1 S1.2 2050 (t.len - 3) 8 1).1.out.length ≤ 700000009 by have := (treeB_len (t.len - 3) 2050 8 1 S1.1 S1.2).2; have := HB3.out; omega)
    have HTR := Lib.hid (fun W vb2 (hP : PuS w W g gm gt vb vb2 S1.1 ⟨S1.2, x.kind, x.h⟩ t) => tree_in (modR x.kind x.h) 2050 g vb2 S1.1 gm 87 S1.2 256 256 (t.len - 3) 8 W hP.wt HB1.out.1.ok (by have := HB3.out; omega) hP.mo (by rw [HB2.out]; decide) HB1.out.2 ⟨hP.ne.1, hP.ne.2.2.2.1⟩ (by decide) (by decide) (by decide) (by omega))
    generalize treeB S1.1 S1.2 2050 (t.len - 3) 8 1 = S2 at *
    have HB7 := Lib.hid (treeB_okw (nbits k : Int) 2306 16 4 1 HB4.out.1 HB4.out.2 (by rw [HB5.out]; decide) (by decide))
    have HB8 := Lib.hid (show (treeB S2.1 S2.2 2306 (nbits k : Int) 4 1).1.out.length ≤ 700000013 by have := (treeB_len (nbits k : Int) 2306 4 1 S2.1 S2.2).2; have := HB6.out; omega)
    have HK15 := Lib.hid (show nbits k ≤ 15 from nbits_le (k := 15) (by omega))
    have HTR2 := Lib.hid (fun W vb2 (hP : PuS w W g gm gt vb vb2 S2.1 ⟨S2.2, x.kind, x.h⟩ t) => tree_in (modR x.kind x.h) 2306 g vb2 S2.1 gm 87 S2.2 16 16 (nbits k : Int) 4 W hP.wt HB4.out.1.ok (by have := HB6.out; omega) hP.mo (by rw [HB5.out]; decide) HB4.out.2 ⟨hP.ne.1, hP.ne.2.2.2.1⟩ (by decide) (by decide) (by decide) (by have := HK15.out; omega))
    generalize treeB S2.1 S2.2 2306 (nbits k : Int) 4 1 = S3 at *
    have HEV := Lib.hid (fun W vb2 (hP : PuS w W g gm gt vb vb2 S3.1 ⟨S3.2, x.kind, x.h⟩ t) => even_at g vb2 S3.1 (k : Int) (nbits k - 1) W hP.wt HB7.out.1.ok (by have := HB8.out; omega) (by have := HK15.out; omega) (by omega))
    have HBL := Lib.hid (bitsLen_any k (by omega))
    have HBW := Lib.hid (below_any (nbits k) (by have := HK15.out; omega))
    generalize nbits k = m at *
    have HLN := Lib.hid (show -1000000000000000 ≤ t.len - 3 ∧ t.len - 3 ≤ 1000000000000000 by omega)
    have hwb : IntKind.i64.wrap (t.back - 1) = (k : Int) := by rw [IntKind.wrap_i64]; omega
    have hwu : IntKind.u64.wrap (k : Int) = (k : Int) := by rw [IntKind.wrap_u64]; omega
    unfold tokV
    go_enter Try.func48, Try.ntmps48
    go_wp2
    clear hW1 hgt
    refine wp_region_walk3 11 [] dis_nil (by kernel_rfl) (by kernel_rfl) (by kernel_rfl) ?_
    simp only [List.take_succ_cons, List.take_zero, List.drop_succ_cons, List.drop_zero]
    refine Walk.val (G := Is (.pointer (some ⟨g, 0, none⟩))) (stays_is _ _) rfl rfl (fun a w hm hd => ⟨wanted_plain rfl, st_move rfl (by rw [hm.outer 1 (by kernel_rfl)]; rfl)⟩) ?_
    refine Walk.val (G := Is (.pointer (some ⟨gm, 0, none⟩))) (stays_is _ _) rfl rfl (fun a w hm hd => ⟨wanted_plain rfl, st_move rfl (by rw [hm.outer 0 (by kernel_rfl)]; rfl)⟩) ?_
    refine Walk.val (G := Is (.pointer (some ⟨gm, 0, none⟩))) (stays_is _ _) rfl rfl (fun a w hm hd => ⟨wanted_plain rfl, st_move rfl (by rw [hm.outer 0 (by kernel_rfl)]; rfl)⟩) ?_
    refine Walk.val (G := Is (.pointer (some ⟨gm, 0, none⟩))) (stays_is _ _) rfl rfl (fun a w hm hd => ⟨wanted_plain rfl, st_nil rfl (hd.at_ 2 rfl rfl rfl rfl)⟩) ?_
    refine Walk.val (G := Is (.pointer (some ⟨gm, 2322, none⟩))) (stays_is _ _) rfl rfl (fun a w hm hd => ⟨wanted_plain rfl, st_fieldM 4 (by decide) rfl (hd.at_ 3 rfl rfl rfl rfl)⟩) ?_
    refine Walk.val (G := Is (.int .i64 (x.kind : Int))) (stays_is _ _) rfl rfl (fun a w hm hd => ⟨wanted_plain rfl, st_cell rfl (fun _ => by kernel_rfl) (hd.at_ 4 rfl rfl rfl rfl) ((HP.out.mo.grown0 (GrownX.none2 hm.grow)).kind HX.out.len)⟩) ?_
    refine Walk.val (G := Is (.pointer (some ⟨gm, 0, none⟩))) (stays_is _ _) rfl rfl (fun a w hm hd => ⟨wanted_plain rfl, st_nil rfl (hd.at_ 1 rfl rfl rfl rfl)⟩) ?_
    refine Walk.val (G := Is (.pointer (some ⟨gm, 0, none⟩))) (stays_is _ _) rfl rfl (fun a w hm hd => ⟨wanted_plain rfl, st_fieldM 0 (by decide) rfl (hd.at_ 6 rfl rfl rfl rfl)⟩) ?_
    refine Walk.val (G := Is (.pointer (some ⟨gm, x.kind, none⟩))) (stays_is _ _) rfl rfl (fun a w hm hd => ⟨wanted_plain rfl, st_idxK rfl (hd.at_ 7 rfl rfl rfl rfl) (hd.at_ 5 rfl rfl rfl rfl) (by have := HX.out.k; omega)⟩) ?_
    refine Walk.val (G := Is (tokV t)) (stays_is _ _) rfl rfl (fun a w hm hd => ⟨wanted_plain rfl, st_loadK rfl (by rw [hm.outer 5 (by kernel_rfl)]; rfl) (HP.out.tk.grown0 (GrownX.none2 hm.grow))⟩) ?_
    refine Walk.call (G := Is (.int .i64 (kindN t : Int))) (stays_is _ _) rfl 77 rfl (fun a w hm ha hd => ⟨wanted_plain rfl, _, ex_call1 Try.func77 (by kernel_rfl) (by kernel_rfl) rfl, by rw [show a.eval (.tmp 17) = _ from (hd.at_ 9 rfl rfl rfl rfl)]; exact Val.made (kindOf_any t w)⟩) ?_
    intro a9 V9 hm9 hall
    have f8 : Is (.pointer (some ⟨g, 0, none⟩)) (a9.eval (.tmp 8)) V9 := hall 0 _ _ rfl rfl
    have f16 : Is (.pointer (some ⟨gm, x.kind, none⟩)) (a9.eval (.tmp 16)) V9 := hall 8 _ _ rfl rfl
    have f18 : Is (.int .i64 (kindN t : Int)) (a9.eval (.tmp 18)) V9 := hall 10 _ _ rfl rfl
    have hfr := hm9.frame
    simp only [List.take_succ_cons, List.take_zero, List.filterMap_cons, List.filterMap_nil, List.foldl_cons, List.foldl_nil] at hfr
    have hgV9 := GrownX.none2 hm9.grow
    have f8 : a9.eval (.tmp 8) = _ := f8
    rw [f8] at hfr
    have f16 : a9.eval (.tmp 16) = _ := f16
    rw [f16] at hfr
    have f18 : a9.eval (.tmp 18) = _ := f18
    rw [f18] at hfr
    generalize a9.eval (.tmp 9) = e9 at hfr
    generalize a9.eval (.tmp 10) = e10 at hfr
    generalize a9.eval (.tmp 11) = e11 at hfr
    generalize a9.eval (.tmp 12) = e12 at hfr
    generalize a9.eval (.tmp 13) = e13 at hfr
    generalize a9.eval (.tmp 14) = e14 at hfr
    generalize a9.eval (.tmp 15) = e15 at hfr
    generalize a9.eval (.tmp 17) = e17 at hfr
    clear hall hm9
    unfold wpList
    rw [hfr]
    clear hfr
    go_simp
    refine .inl ((HBIT.out V9 (HP.out.grown0 hgV9)).mono ?_)
    rintro e w2 ⟨rfl, vb2, ht2, hm2, hn2⟩
    have HP2 := Lib.hid ((HP.out.grown0 hgV9).step ht2 hm2 hn2)
    clear ht2 hm2 hn2 HBIT hgV9
    have e0 := HP2.out.tk.cell (j := 0) rfl
    have e1 := HP2.out.tk.cell (j := 1) rfl
    have e2 := HP2.out.tk.cell (j := 2) rfl
    go_wp2_with fail
    refine (kindOf_any t w2).mono ?_
    rintro e w3 ⟨rfl, hg3⟩
    have HP3 := Lib.hid (HP2.out.grown0 hg3)
    clear hg3 HP2 e0 e1 e2
    rw [hk1]
    have q0 : (((1 : Nat) : Int) == 0) = false := rfl
    go_wp2
    refine wp_region_walk3 8 [] dis_nil (by kernel_rfl) (by kernel_rfl) (by kernel_rfl) ?_
    simp only [List.take_succ_cons, List.take_zero, List.drop_succ_cons, List.drop_zero]
    refine Walk.val (G := Is (.pointer (some ⟨g, 0, none⟩))) (stays_is _ _) rfl rfl (fun a w hm hd => ⟨wanted_plain rfl, st_move rfl (by rw [hm.outer 1 (by kernel_rfl)]; rfl)⟩) ?_
    refine Walk.val (G := Is (.pointer (some ⟨gm, 0, none⟩))) (stays_is _ _) rfl rfl (fun a w hm hd => ⟨wanted_plain rfl, st_move rfl (by rw [hm.outer 0 (by kernel_rfl)]; rfl)⟩) ?_
    refine Walk.val (G := Is (.pointer (some ⟨gm, 0, none⟩))) (stays_is _ _) rfl rfl (fun a w hm hd => ⟨wanted_plain rfl, st_nil rfl (hd.at_ 1 rfl rfl rfl rfl)⟩) ?_
    refine Walk.val (G := Is (.pointer (some ⟨gm, 2050, none⟩))) (stays_is _ _) rfl rfl (fun a w hm hd => ⟨wanted_plain rfl, st_fieldM 2 (by decide) rfl (hd.at_ 2 rfl rfl rfl rfl)⟩) ?_
    refine Walk.val (G := Is (.slice (some ⟨gm, 2050, none⟩) 256 256)) (stays_is _ _) rfl rfl (fun a w hm hd => ⟨wanted_plain rfl, st_sliceC rfl (hd.at_ 3 rfl rfl rfl rfl)⟩) ?_
    refine Walk.val (G := Is (.pointer (some ⟨gt, 1, none⟩))) (stays_is _ _) rfl rfl (fun a w hm hd => ⟨wanted_plain rfl, st_fieldT1 rfl (by rw [hm.outer 5 (by kernel_rfl)]; rfl)⟩) ?_
    refine Walk.val (G := Is (.int .i64 t.len)) (stays_is _ _) rfl rfl (fun a w hm hd => ⟨wanted_plain rfl, st_cell rfl (fun _ => by kernel_rfl) (hd.at_ 5 rfl rfl rfl rfl) ((HP3.out.tk.grown0 (GrownX.none2 hm.grow)).cell (j := 1) rfl)⟩) ?_
    refine Walk.val (G := Is (.int .i64 (t.len - 3))) (stays_is _ _) rfl rfl (fun a w hm hd => ⟨wanted_plain rfl, st_subi rfl (hd.at_ 6 rfl rfl rfl rfl) rfl rfl HLN.out⟩) ?_
    intro a8 V8 hm8 hall
    have f30 : Is (.pointer (some ⟨g, 0, none⟩)) (a8.eval (.tmp 30)) V8 := hall 0 _ _ rfl rfl
    have f34 : Is (.slice (some ⟨gm, 2050, none⟩) 256 256) (a8.eval (.tmp 34)) V8 := hall 4 _ _ rfl rfl
    have f37 : Is (.int .i64 (t.len - 3)) (a8.eval (.tmp 37)) V8 := hall 7 _ _ rfl rfl
    have hfr := hm8.frame
    simp only [List.take_succ_cons, List.take_zero, List.filterMap_cons, List.filterMap_nil, List.foldl_cons, List.foldl_nil] at hfr
    have hgV8 := GrownX.none2 hm8.grow
    have f30 : a8.eval (.tmp 30) = _ := f30
    rw [f30] at hfr
    have f34 : a8.eval (.tmp 34) = _ := f34
    rw [f34] at hfr
    have f37 : a8.eval (.tmp 37) = _ := f37
    rw [f37] at hfr
    generalize a8.eval (.tmp 31) = e31 at hfr
    generalize a8.eval (.tmp 32) = e32 at hfr
    generalize a8.eval (.tmp 33) = e33 at hfr
    generalize a8.eval (.tmp 35) = e35 at hfr
    generalize a8.eval (.tmp 36) = e36 at hfr
    clear hall hm8
    unfold wpList
    rw [hfr]
    clear hfr
    go_simp
    refine .inl ((HTR.out V8 vb2 (HP3.out.grown0 hgV8)).mono ?_)
    rintro e w4 ⟨rfl, vb4, ht4, hm4, hn4⟩
    have HP4 := Lib.hid ((HP3.out.grown0 hgV8).step ht4 hm4 hn4)
    clear ht4 hm4 hn4 HTR HP3 hgV8
    have e2 := HP4.out.tk.cell (j := 2) rfl
    go_wp2_with fail
    refine (HBL.out w4).mono ?_
    rintro e w5 ⟨rfl, hg5⟩
    have HP5 := Lib.hid (HP4.out.grown0 hg5)
    clear hg5 HP4 e2
    go_wp2_with fail
    refine (HTR2.out w5 vb4 HP5.out).mono ?_
    rintro e w6 ⟨rfl, vb6, ht6, hm6, hn6⟩
    have HP6 := Lib.hid (HP5.out.step ht6 hm6 hn6)
    clear ht6 hm6 hn6 HTR2 HP5
    go_wp2_with fail
    refine (HBW.out w6).mono ?_
    rintro e w7 ⟨rfl, hg7⟩
    have HP7 := Lib.hid (HP6.out.grown0 hg7)
    clear hg7 HP6
    go_wp2_with fail
    refine (HEV.out w7 vb6 HP7.out).mono ?_
    rintro e w8 ⟨rfl, vb8, ht8, hn8⟩
    have HP8 := Lib.hid (HP7.out.even ht8 hn8)
    clear ht8 hn8
    go_wp2
    refine bodyPost_end (results_none rfl _ _ _) rfl ?_
    exact ⟨rfl, vb8, HP8.out.wt, HP8.out.mo, HP8.out.wn, HP8.out.ne.2.2.2.1⟩
  · rw [if_neg hz, hbt false (by simpa using hz)]
    have hk0 : kindN t = 0 := by unfold kindN; rw [if_neg hz]
    rw [hk0, show ((0 : Nat) : Int) = 0 from rfl] at HBIT
    have HU := Lib.hid (upper_lt x.h)
    clear hbt HPT
    generalize bitS s x.L x.kind (decide (0 < t.len)) = S1 at *
    unfold tokV
    go_enter Try.func48, Try.ntmps48
    go_wp2
    clear hW1 hgt
    refine wp_region_walk3 11 [] dis_nil (by kernel_rfl) (by kernel_rfl) (by kernel_rfl) ?_
    simp only [List.take_succ_cons, List.take_zero, List.drop_succ_cons, List.drop_zero]
    refine Walk.val (G := Is (.pointer (some ⟨g, 0, none⟩))) (stays_is _ _) rfl rfl (fun a w hm hd => ⟨wanted_plain rfl, st_move rfl (by rw [hm.outer 1 (by kernel_rfl)]; rfl)⟩) ?_
    refine Walk.val (G := Is (.pointer (some ⟨gm, 0, none⟩))) (stays_is _ _) rfl rfl (fun a w hm hd => ⟨wanted_plain rfl, st_move rfl (by rw [hm.outer 0 (by kernel_rfl)]; rfl)⟩) ?_
    refine Walk.val (G := Is (.pointer (some ⟨gm, 0, none⟩))) (stays_is _ _) rfl rfl (fun a w hm hd => ⟨wanted_plain rfl, st_move rfl (by rw [hm.outer 0 (by kernel_rfl)]; rfl)⟩) ?_
    refine Walk.val (G := Is (.pointer (some ⟨gm, 0, none⟩))) (stays_is _ _) rfl rfl (fun a w hm hd => ⟨wanted_plain rfl, st_nil rfl (hd.at_ 2 rfl rfl rfl rfl)⟩) ?_
    refine Walk.val (G := Is (.pointer (some ⟨gm, 2322, none⟩))) (stays_is _ _) rfl rfl (fun a w hm hd => ⟨wanted_plain rfl, st_fieldM 4 (by decide) rfl (hd.at_ 3 rfl rfl rfl rfl)⟩) ?_
    refine Walk.val (G := Is (.int .i64 (x.kind : Int))) (stays_is _ _) rfl rfl (fun a w hm hd => ⟨wanted_plain rfl, st_cell rfl (fun _ => by kernel_rfl) (hd.at_ 4 rfl rfl rfl rfl) ((HP.out.mo.grown0 (GrownX.none2 hm.grow)).kind HX.out.len)⟩) ?_
    refine Walk.val (G := Is (.pointer (some ⟨gm, 0, none⟩))) (stays_is _ _) rfl rfl (fun a w hm hd => ⟨wanted_plain rfl, st_nil rfl (hd.at_ 1 rfl rfl rfl rfl)⟩) ?_
    refine Walk.val (G := Is (.pointer (some ⟨gm, 0, none⟩))) (stays_is _ _) rfl rfl (fun a w hm hd => ⟨wanted_plain rfl, st_fieldM 0 (by decide) rfl (hd.at_ 6 rfl rfl rfl rfl)⟩) ?_
    refine Walk.val (G := Is (.pointer (some ⟨gm, x.kind, none⟩))) (stays_is _ _) rfl rfl (fun a w hm hd => ⟨wanted_plain rfl, st_idxK rfl (hd.at_ 7 rfl rfl rfl rfl) (hd.at_ 5 rfl rfl rfl rfl) (by have := HX.out.k; omega)⟩) ?_
    refine Walk.val (G := Is (tokV t)) (stays_is _ _) rfl rfl (fun a w hm hd => ⟨wanted_plain rfl, st_loadK rfl (by rw [hm.outer 5 (by kernel_rfl)]; rfl) (HP.out.tk.grown0 (GrownX.none2 hm.grow))⟩) ?_
    refine Walk.call (G := Is (.int .i64 (kindN t : Int))) (stays_is _ _) rfl 77 rfl (fun a w hm ha hd => ⟨wanted_plain rfl, _, ex_call1 Try.func77 (by kernel_rfl) (by kernel_rfl) rfl, by rw [show a.eval (.tmp 17) = _ from (hd.at_ 9 rfl rfl rfl rfl)]; exact Val.made (kindOf_any t w)⟩) ?_
    intro a9 V9 hm9 hall
    have f8 : Is (.pointer (some ⟨g, 0, none⟩)) (a9.eval (.tmp 8)) V9 := hall 0 _ _ rfl rfl
    have f16 : Is (.pointer (some ⟨gm, x.kind, none⟩)) (a9.eval (.tmp 16)) V9 := hall 8 _ _ rfl rfl
    have f18 : Is (.int .i64 (kindN t : Int)) (a9.eval (.tmp 18)) V9 := hall 10 _ _ rfl rfl
    have hfr := hm9.frame
    simp only [List.take_succ_cons, List.take_zero, List.filterMap_cons, List.filterMap_nil, List.foldl_cons, List.foldl_nil] at hfr
    have hgV9 := GrownX.none2 hm9.grow
    have f8 : a9.eval (.tmp 8) = _ := f8
    rw [f8] at hfr
    have f16 : a9.eval (.tmp 16) = _ := f16
    rw [f16] at hfr
    have f18 : a9.eval (.tmp 18) = _ := f18
    rw [f18] at hfr
    generalize a9.eval (.tmp 9) = e9 at hfr
    generalize a9.eval (.tmp 10) = e10 at hfr
    generalize a9.eval (.tmp 11) = e11 at hfr
    generalize a9.eval (.tmp 12) = e12 at hfr
    generalize a9.eval (.tmp 13) = e13 at hfr
    generalize a9.eval (.tmp 14) = e14 at hfr
    generalize a9.eval (.tmp 15) = e15 at hfr
    generalize a9.eval (.tmp 17) = e17 at hfr
    clear hall hm9
    unfold wpList
    rw [hfr]
    clear hfr
    go_simp
    refine .inl ((HBIT.out V9 (HP.out.grown0 hgV9)).mono ?_)
    rintro e w2 ⟨rfl, vb2, ht2, hm2, hn2⟩
    have HP2 := Lib.hid ((HP.out.grown0 hgV9).step ht2 hm2 hn2)
    have HTR := Lib.hid (fun W (hP : PuS w W g gm gt vb vb2 S1.1 ⟨S1.2, x.kind, x.h⟩ t) => tree_in (modR x.kind x.h) (2 + 256 * upper x.h) g vb2 S1.1 gm 87 S1.2 256 256 (t.lit.toNat : Int) 8 W hP.wt HB1.out.1.ok (by have := HB3.out; omega) hP.mo (by rw [HB2.out]; have := HU.out; omega) HB1.out.2 ⟨hP.ne.1, hP.ne.2.2.2.1⟩ (by decide) (by decide) (by decide) (by have := HLT.out; omega))
    clear ht2 hm2 hn2 HBIT hgV9
    have e0 := HP2.out.tk.cell (j := 0) rfl
    have e1 := HP2.out.tk.cell (j := 1) rfl
    have e2 := HP2.out.tk.cell (j := 2) rfl
    go_wp2_with fail
    refine (kindOf_any t w2).mono ?_
    rintro e w3 ⟨rfl, hg3⟩
    have HP3 := Lib.hid (HP2.out.grown0 hg3)
    clear hg3 HP2 e0 e1 e2
    rw [hk0]
    have q0 : (((0 : Nat) : Int) == 0) = true := rfl
    go_wp2
    refine wp_region_walk3 6 [] dis_nil (by kernel_rfl) (by kernel_rfl) (by kernel_rfl) ?_
    simp only [List.take_succ_cons, List.take_zero, List.drop_succ_cons, List.drop_zero]
    refine Walk.val (G := Is (.pointer (some ⟨g, 0, none⟩))) (stays_is _ _) rfl rfl (fun a w hm hd => ⟨wanted_plain rfl, st_move rfl (by rw [hm.outer 1 (by kernel_rfl)]; rfl)⟩) ?_
    refine Walk.val (G := Is (.pointer (some ⟨gm, 0, none⟩))) (stays_is _ _) rfl rfl (fun a w hm hd => ⟨wanted_plain rfl, st_move rfl (by rw [hm.outer 0 (by kernel_rfl)]; rfl)⟩) ?_
    refine Walk.call (G := Is (.slice (some ⟨gm, 2 + 256 * upper x.h, none⟩) 256 256)) (stays_is _ _) rfl 74 rfl (fun a w hm ha hd => ⟨wanted_plain rfl, _, ex_call1 Try.func74 (by kernel_rfl) (by kernel_rfl) rfl, by rw [show a.eval (.tmp 24) = _ from (hd.at_ 1 rfl rfl rfl rfl)]; exact Val.made (treeM_any gm ⟨S1.2, x.kind, x.h⟩ w (HP3.out.mo.grown0 (GrownX.none2 hm.grow)) HB2.out HN.out)⟩) ?_
    refine Walk.val (G := Is (.pointer (some ⟨gt, 0, none⟩))) (stays_is _ _) rfl rfl (fun a w hm hd => ⟨wanted_plain rfl, st_fieldT0 rfl (by rw [hm.outer 5 (by kernel_rfl)]; rfl)⟩) ?_
    refine Walk.val (G := Is (.int .u8 (t.lit.toNat : Int))) (stays_is _ _) rfl rfl (fun a w hm hd => ⟨wanted_plain rfl, st_cell rfl (fun _ => by kernel_rfl) (hd.at_ 3 rfl rfl rfl rfl) ((HP3.out.tk.grown0 (GrownX.none2 hm.grow)).cell (j := 0) rfl)⟩) ?_
    refine Walk.val (G := Is (.int .i64 (t.lit.toNat : Int))) (stays_is _ _) rfl rfl (fun a w hm hd => ⟨wanted_plain rfl, st_conv8 rfl (hd.at_ 4 rfl rfl rfl rfl) HLT.out⟩) ?_
    intro a8 V8 hm8 hall
    have f23 : Is (.pointer (some ⟨g, 0, none⟩)) (a8.eval (.tmp 23)) V8 := hall 0 _ _ rfl rfl
    have f25 : Is (.slice (some ⟨gm, 2 + 256 * upper x.h, none⟩) 256 256) (a8.eval (.tmp 25)) V8 := hall 2 _ _ rfl rfl
    have f28 : Is (.int .i64 (t.lit.toNat : Int)) (a8.eval (.tmp 28)) V8 := hall 5 _ _ rfl rfl
    have hfr := hm8.frame
    simp only [List.take_succ_cons, List.take_zero, List.filterMap_cons, List.filterMap_nil, List.foldl_cons, List.foldl_nil] at hfr
    have hgV8 := GrownX.none2 hm8.grow
    have f23 : a8.eval (.tmp 23) = _ := f23
    rw [f23] at hfr
    have f25 : a8.eval (.tmp 25) = _ := f25
    rw [f25] at hfr
    have f28 : a8.eval (.tmp 28) = _ := f28
    rw [f28] at hfr
    generalize a8.eval (.tmp 24) = e24 at hfr
    generalize a8.eval (.tmp 26) = e26 at hfr
    generalize a8.eval (.tmp 27) = e27 at hfr
    clear hall hm8
    unfold wpList
    rw [hfr]
    clear hfr
    go_simp
    refine .inl ((HTR.out V8 (HP3.out.grown0 hgV8)).mono ?_)
    rintro e w4 ⟨rfl, vb4, ht4, hm4, hn4⟩
    have HP4 := Lib.hid ((HP3.out.grown0 hgV8).step ht4 hm4 hn4)
    clear ht4 hm4 hn4
    go_wp2
    refine bodyPost_end (results_none rfl _ _ _) rfl ?_
    exact ⟨rfl, vb4, HP4.out.wt, HP4.out.mo, HP4.out.wn, HP4.out.ne.2.2.2.1⟩
end Go.Proofs.Ytibofgokdjbomaa
