/-
  pack's model over this program: a token is taken.
-/
import Derived.Test.YtibofgokdjbomaaPkPut
import Derived.Test.YtibofgokdjbomaaMCodR
import Derived.Test.YtibofgokdjbomaaReg4
namespace Go.Proofs.Ytibofgokdjbomaa
set_option maxRecDepth 1000000
open Go.RowKit

section
variable {o : Oper} {a : Act} {w : World}
theorem st_shlP2 {y : Operand} {B : Nat} (h : o.op = .binOp .shl 3 (.const (.int .i64 1)) y 3) (hy : Is (.int .i64 (B : Int)) (a.eval y) w) (hB : B ≤ 62) : Runs (Is (.int .i64 (2 ^ B))) o a w := by
  have hy' : a.eval y = .int .i64 (B : Int) := hy
  have hc : a.eval (.const (.int .i64 1)) = .int .i64 1 := rfl
  have hw : IntKind.i64.wrap ((2 : Int) ^ B) = 2 ^ B := by rw [wrap_pow B hB]; norm_cast
  refine ⟨_, ?_, rfl⟩
  simp only [execOp, h, hy', hc]
  simp [go_sem, hw]
theorem st_shr1 {x : Operand} {B q : Nat} (h : o.op = .binOp .shr 3 x (.const (.int .u64 1)) 108) (hx : Is (.int .i64 (2 ^ B)) (a.eval x) w) (hq : 2 ^ B / 2 = q) : Runs (Is (.int .i64 (q : Int))) o a w := by
  subst hq
  have hx' : a.eval x = .int .i64 (2 ^ B) := hx
  have hc : a.eval (.const (.int .u64 1)) = .int .u64 1 := rfl
  refine ⟨_, ?_, rfl⟩
  simp only [execOp, h, hx', hc]
  simp [go_sem]
end
theorem or_two (m k : Nat) (hm : m ≤ 15) (hk : k < 2 ^ (m - 1)) : bits .or .i64 ((2 ^ m / 2 : Nat) : Int) (k : Int) = ((2 ^ m / 2 + k : Nat) : Int) := by
  rcases m with _ | m
  · simp at hk
    subst hk
    rfl
  · simp only [Nat.add_sub_cancel] at hk
    have e : 2 ^ (m + 1) / 2 = 2 ^ m := by rw [Nat.pow_succ]; omega
    have h14 : 2 ^ m ≤ 2 ^ 14 := Nat.pow_le_pow_right (by decide) (by omega)
    rw [e]
    have hor : 2 ^ m ||| k = 2 ^ m + k := by
      have := Nat.two_pow_add_eq_or_of_lt hk 1
      rw [Nat.mul_one] at this
      exact this.symm
    show IntKind.i64.wrap ((BitVec.ofInt 64 ((2 ^ m : Nat) : Int) ||| BitVec.ofInt 64 (k : Int)).toNat : Int) = _
    rw [BitVec.toNat_or, show (BitVec.ofInt 64 ((2 ^ m : Nat) : Int)).toNat = 2 ^ m by rw [BitVec.toNat_ofInt]; omega, show (BitVec.ofInt 64 (k : Int)).toNat = k by rw [BitVec.toNat_ofInt]; omega, hor, IntKind.wrap_i64]
    omega
theorem grown_ahead {W W' : World} {g : Nat} (h : GrownX [g] W.drew W') (ha : W'.heap[g]? = W.heap[g]?) : W.grownBy W' none :=
  ⟨h.os, h.tape, h.output, h.size, fun k hk _ => by
    by_cases e : k = g
    · rw [e]; exact ha
    · exact h.block k hk (by simpa using e)⟩
theorem st_orN {o : Oper} {a : Act} {w : World} {x y : Operand} {p q r : Nat} (h : o.op = .binOp .or 3 x y 3) (hx : Is (.int .i64 (p : Int)) (a.eval x) w) (hy : Is (.int .i64 (q : Int)) (a.eval y) w) (e : bits .or .i64 (p : Int) (q : Int) = (r : Int)) : Runs (Is (.int .i64 (r : Int))) o a w := by
  have hx' : a.eval x = .int .i64 (p : Int) := hx
  have hy' : a.eval y = .int .i64 (q : Int) := hy
  refine ⟨_, ?_, rfl⟩
  simp only [execOp, h, hx', hy']
  simp [go_sem, e]
/-- A token is being taken. -/
structure TkS (w W : World) (g gm gt : Nat) (vb : Option Nat) (R : Rst) (x : Kst) : Prop where
  rs : Rs W g vb R
  mo : Mo W gm x
  tk : Row W gt 37 [.int .u8 0, .int .i64 0, .int .i64 0]
  ne : gm ≠ g ∧ gt ≠ g ∧ gt ≠ gm ∧ vb ≠ some gm ∧ vb ≠ some gt
  nw : w.heap.size ≤ gt
  wn : Wn [g, gm] w none W none
section
variable {w W W' : World} {g gm gt : Nat} {vb : Option Nat} {R R' : Rst} {x : Kst}
theorem TkS.grown0 (h : TkS w W g gm gt vb R x) (hg : W.grownBy W' none) : TkS w W' g gm gt vb R x := ⟨h.rs.grown0 hg, h.mo.grown0 hg, h.tk.grown0 hg, h.ne, h.nw, h.wn.grown0 hg⟩
theorem TkS.step {L : List Nat} (h : TkS w W g gm gt vb R x) (hr : Rs W' g vb R') (hm : Row W' gm 87 (chR (modR x.kind x.h) L)) (hn : Wn [g, gm] W none W' none) : TkS w W' g gm gt vb R' ⟨L, x.kind, x.h⟩ := by
  obtain ⟨n1, n2, n3, n4, n5⟩ := h.ne
  exact ⟨hr, hm, h.tk.wn hn (by simp; exact ⟨n2, n3⟩) (by simp), h.ne, h.nw, h.wn.trans hn⟩
theorem TkS.even (h : TkS w W g gm gt vb R x) (hr : Rs W' g vb R') (hg : W.grownBy W' (some g)) : TkS w W' g gm gt vb R' x := by
  obtain ⟨n1, n2, n3, n4, n5⟩ := h.ne
  exact ⟨hr, h.mo.grown hg (fun e => by cases e; exact n1 rfl), h.tk.grown hg (fun e => by cases e; exact n2 rfl), h.ne, h.nw, h.wn.grown hg (fun b e => by cases e; exact .inl (by simp))⟩
end
/-- What a model's take answers. -/
def TaOut (g gm : Nat) (vb : Option Nat) (x : Kst) (p : Tok × Rst × List Nat) (w : World) (e : Ending) (w' : World) : Prop :=
  e = .returned (tokV p.1) ∧ Rs w' g vb p.2.1 ∧ Mo w' gm ⟨p.2.2, x.kind, x.h⟩ ∧ Wn [g, gm] w none w' none
theorem TkS.done {w W W' : World} {g gm gt : Nat} {vb : Option Nat} {R : Rst} {x : Kst} (h : TkS w W g gm gt vb R x) (hg : W.grownBy W' (some gt)) : Rs W' g vb R ∧ Mo W' gm x ∧ Wn [g, gm] w none W' none := by
  obtain ⟨n1, n2, n3, n4, n5⟩ := h.ne
  have hw := h.wn
  refine ⟨h.rs.grown hg (fun e => by cases e; exact n2 rfl) (fun b hb e => by cases e; exact n5 hb), h.mo.grown hg (fun e => by cases e; exact n3 rfl), ⟨hg.os.trans hw.os, hg.tape.trans hw.tape, hg.output.trans hw.output, Nat.le_trans hw.size hg.size, fun b hb hS hv => ?_, .inl rfl⟩⟩
  have := h.nw
  exact (hg.block b (Nat.lt_of_lt_of_le hb hw.size) (fun e => by cases e; omega)).trans (hw.block b hb hS hv)
set_option maxHeartbeats 8000000 in
theorem takeM_at (g : Nat) (vb : Option Nat) (r : Rst) (gm : Nat) (x : Kst) (w : World) (hw : Rs w g vb r) (ho : Okr r) (h : Mo w gm x) (hx : Okk x) (hn : x.h.length ≤ 100000) (hne : gm ≠ g ∧ vb ≠ some gm) (hvl : ∀ b, vb = some b → b < w.heap.size) :
    Calls Try.prog 42 #[.pointer (some ⟨gm, 0, none⟩), .pointer (some ⟨g, 0, none⟩)] w (TaOut g gm vb x (takeT r x) w) := by
  obtain ⟨gt, hgt⟩ : ∃ gt, w.heap.size = gt := ⟨_, rfl⟩
  obtain ⟨W1, hW1⟩ : ∃ W, w.alloc (.cells #[.int .u8 0, .int .i64 0, .int .i64 0] 37) = W := ⟨_, rfl⟩
  have hg1 : w.grownBy W1 none := by rw [← hW1]; exact grown_alloc (grown_refl _ _) _
  have HP := Lib.hid (show TkS w W1 g gm gt vb r x from ⟨hw.grown0 hg1, h.grown0 hg1, by rw [← hW1]; exact Row.newAt w _ [.int .u8 0, .int .i64 0, .int .i64 0] hgt, ⟨hne.1, fun e => by have := hw.lt; omega, fun e => by have := h.lt; omega, hne.2, fun e => by have := hvl gt e; omega⟩, by omega, (Wn.refl _ _ _).grown0 hg1⟩)
  have HX := Lib.hid hx
  have HN := Lib.hid hn
  have HB1 := Lib.hid (bitR_ok (p := x.kind) ho hx.l (kind_lt hx))
  have HBIT := Lib.hid (fun W (hP : TkS w W g gm gt vb r x) => rbit_in (modR x.kind x.h) g vb r gm x.kind 87 x.L W hP.rs ho hP.mo (kind_lt hx) hx.l ⟨hne.1, hne.2⟩)
  have HXL := Lib.hid hx.len
  have HU := Lib.hid (upper_lt x.h)
  unfold takeT
  generalize bitR r x.L x.kind = S1 at *
  obtain ⟨b1, S1⟩ := S1
  unfold RBOutR at HBIT
  simp only at HB1 HBIT ⊢
  clear hw ho h hx hn hne hg1 hvl
  cases b1 with
  | false =>
    simp only [Bool.false_eq_true, ↓reduceIte]
    have HB2 := Lib.hid (treeRB_ok (2 + 256 * upper x.h) 256 8 1 HB1.out.1 HB1.out.2.1 (by rw [HB1.out.2.2, HXL.out]; have := HU.out; omega) (by decide))
    have HTR := Lib.hid (fun W (hP : TkS w W g gm gt vb S1.1 ⟨S1.2, x.kind, x.h⟩) => rtree_in (modR x.kind x.h) (2 + 256 * upper x.h) g vb S1.1 gm 87 S1.2 256 256 8 W hP.rs HB1.out.1 hP.mo (by rw [HB1.out.2.2, HXL.out]; have := HU.out; omega) HB1.out.2.1 ⟨hP.ne.1, hP.ne.2.2.2.1⟩ (by decide) (by decide) (by decide))
    have HTM := Lib.hid (fun W (hP : TkS w W g gm gt vb S1.1 ⟨S1.2, x.kind, x.h⟩) => treeM_any gm ⟨S1.2, x.kind, x.h⟩ W hP.mo (HB1.out.2.2.trans HXL.out) HN.out)
    simp only at HTM
    generalize treeRB S1.1 S1.2 (2 + 256 * upper x.h) 8 1 = S2 at *
    obtain ⟨d, hd⟩ : ∃ d, S2.1 - 256 = d := ⟨_, rfl⟩
    have HD := Lib.hid (show d < 256 ∧ ((S2.1 : Int) - ((2 ^ 8 : Nat) : Int)) = (d : Int) ∧ (UInt8.ofNat d).toNat = d by
      obtain ⟨_, _, _, h4, h5⟩ := HB2.out
      refine ⟨by omega, by omega, by rw [UInt8.toNat_ofNat']; omega⟩)
    have hwd : IntKind.u8.wrap (d : Int) = (d : Int) := by have := HD.out.1; rw [IntKind.wrap_u8]; omega
    have hmd : (d : Int) % 256 = (d : Int) := by have := HD.out.1; omega
    rw [hd]
    generalize upper x.h = uu at *
    clear hd
    go_enter Try.func42, Try.ntmps42
    go_wp2
    clear hW1 hgt
    refine wp_region_walk4 9 [] dis_nil (by kernel_rfl) (by kernel_rfl) (by kernel_rfl) ?_
    simp only [List.take_succ_cons, List.take_zero, List.drop_succ_cons, List.drop_zero]
    refine Walk.val (G := Is (.pointer (some ⟨g, 0, none⟩))) (stays_is _ _) rfl rfl (fun a w hm hd => ⟨wanted_plain rfl, st_move rfl (by rw [hm.outer 1 (by kernel_rfl)]; rfl)⟩) ?_
    refine Walk.val (G := Is (.pointer (some ⟨gm, 0, none⟩))) (stays_is _ _) rfl rfl (fun a w hm hd => ⟨wanted_plain rfl, st_move rfl (by rw [hm.outer 0 (by kernel_rfl)]; rfl)⟩) ?_
    refine Walk.val (G := Is (.pointer (some ⟨gm, 0, none⟩))) (stays_is _ _) rfl rfl (fun a w hm hd => ⟨wanted_plain rfl, st_move rfl (by rw [hm.outer 0 (by kernel_rfl)]; rfl)⟩) ?_
    refine Walk.val (G := Is (.pointer (some ⟨gm, 0, none⟩))) (stays_is _ _) rfl rfl (fun a w hm hd => ⟨wanted_plain rfl, st_nil rfl (hd.at_ 2 rfl rfl rfl rfl)⟩) ?_
    refine Walk.val (G := Is (.pointer (some ⟨gm, 2322, none⟩))) (stays_is _ _) rfl rfl (fun a w hm hd => ⟨wanted_plain rfl, st_fieldM 4 (by decide) rfl (hd.at_ 3 rfl rfl rfl rfl)⟩) ?_
    refine Walk.val (G := Is (.int .i64 (x.kind : Int))) (stays_is _ _) rfl rfl (fun a w hm hd => ⟨wanted_plain rfl, st_cell rfl (fun _ => by kernel_rfl) (hd.at_ 4 rfl rfl rfl rfl) ((HP.out.mo.grown0 (GrownX.none2 hm.grow)).kind HX.out.len)⟩) ?_
    refine Walk.val (G := Is (.pointer (some ⟨gm, 0, none⟩))) (stays_is _ _) rfl rfl (fun a w hm hd => ⟨wanted_plain rfl, st_nil rfl (hd.at_ 1 rfl rfl rfl rfl)⟩) ?_
    refine Walk.val (G := Is (.pointer (some ⟨gm, 0, none⟩))) (stays_is _ _) rfl rfl (fun a w hm hd => ⟨wanted_plain rfl, st_fieldM 0 (by decide) rfl (hd.at_ 6 rfl rfl rfl rfl)⟩) ?_
    refine Walk.val (G := Is (.pointer (some ⟨gm, x.kind, none⟩))) (stays_is _ _) rfl rfl (fun a w hm hd => ⟨wanted_plain rfl, st_idxK rfl (hd.at_ 7 rfl rfl rfl rfl) (hd.at_ 5 rfl rfl rfl rfl) (by have := HX.out.k; omega)⟩) ?_
    intro a9 V9 hm9 hall
    have f8 : Is (.pointer (some ⟨g, 0, none⟩)) (a9.eval (.tmp 8)) V9 := hall 0 _ _ rfl rfl
    have f16 : Is (.pointer (some ⟨gm, x.kind, none⟩)) (a9.eval (.tmp 16)) V9 := hall 8 _ _ rfl rfl
    have hfr := hm9.frame
    simp only [List.take_succ_cons, List.take_zero, List.filterMap_cons, List.filterMap_nil, List.foldl_cons, List.foldl_nil] at hfr
    have hgV9 := GrownX.none2 hm9.grow
    have f8 : a9.eval (.tmp 8) = _ := f8
    rw [f8] at hfr
    have f16 : a9.eval (.tmp 16) = _ := f16
    rw [f16] at hfr
    generalize a9.eval (.tmp 9) = e9 at hfr
    generalize a9.eval (.tmp 10) = e10 at hfr
    generalize a9.eval (.tmp 11) = e11 at hfr
    generalize a9.eval (.tmp 12) = e12 at hfr
    generalize a9.eval (.tmp 13) = e13 at hfr
    generalize a9.eval (.tmp 14) = e14 at hfr
    generalize a9.eval (.tmp 15) = e15 at hfr
    clear hall hm9
    unfold wpList
    rw [hfr]
    clear hfr
    go_simp
    refine .inl ((HBIT.out V9 (HP.out.grown0 hgV9)).mono ?_)
    rintro e w2 ⟨rfl, hr2, hm2, hn2⟩
    have HP2 := Lib.hid ((HP.out.grown0 hgV9).step hr2 hm2 hn2)
    clear hr2 hm2 hn2 HBIT hgV9
    have q0 : ((false.toNat : Int) == 0) = true := rfl
    simp only
    go_wp2_with fail
    refine (HTM.out w2 HP2.out).mono ?_
    rintro e w3 ⟨rfl, hg3⟩
    have HP3 := Lib.hid (HP2.out.grown0 hg3)
    clear hg3 HP2 HTM
    go_wp2_with fail
    refine (HTR.out w3 HP3.out).mono ?_
    rintro e w4 ⟨rfl, hr4, hm4, hn4⟩
    have HP4 := Lib.hid (HP3.out.step hr4 hm4 hn4)
    clear hr4 hm4 hn4 HTR HP3
    rw [HD.out.2.1]
    go_wp2_with (refine wpList_store_row _ rfl rfl _ _ 37 rfl gt 37 _ (tokC ⟨UInt8.ofNat d, 0, 0⟩) rfl (by rw [tokC]; simp only [HD.out.2.2]; rfl) HP4.out.tk rfl (tokC_one _) (by kernel_rfl) ?_; intro W' hr' hg')
    have HE := Lib.hid (HP4.out.done hg')
    have HR := Lib.hid hr'
    clear hr' hg'
    go_wp2
    refine bodyPost_ret (v := tokV ⟨UInt8.ofNat d, 0, 0⟩) ?_ rfl ⟨rfl, HE.out.1, HE.out.2.1, HE.out.2.2⟩
    exact results_row Try.results42 gt 37 (tokC ⟨UInt8.ofNat d, 0, 0⟩) _ rfl HR.out Try.underlying37 rfl (by kernel_rfl)
  | true =>
    simp only [↓reduceIte]
    have HB2 := Lib.hid (treeRB_ok 2050 256 8 1 HB1.out.1 HB1.out.2.1 (by rw [HB1.out.2.2, HXL.out]; decide) (by decide))
    have HB2L := Lib.hid (HB2.out.2.2.1.trans (HB1.out.2.2.trans HXL.out))
    have HTR := Lib.hid (fun W (hP : TkS w W g gm gt vb S1.1 ⟨S1.2, x.kind, x.h⟩) => rtree_in (modR x.kind x.h) 2050 g vb S1.1 gm 87 S1.2 256 256 8 W hP.rs HB1.out.1 hP.mo (by rw [HB1.out.2.2, HXL.out]; decide) HB1.out.2.1 ⟨hP.ne.1, hP.ne.2.2.2.1⟩ (by decide) (by decide) (by decide))
    generalize treeRB S1.1 S1.2 2050 8 1 = S2 at *
    have HB3 := Lib.hid (treeRB_ok 2306 16 4 1 HB2.out.1 HB2.out.2.1 (by rw [HB2L.out]; decide) (by decide))
    have HTR2 := Lib.hid (fun W (hP : TkS w W g gm gt vb S2.2.1 ⟨S2.2.2, x.kind, x.h⟩) => rtree_in (modR x.kind x.h) 2306 g vb S2.2.1 gm 87 S2.2.2 16 16 4 W hP.rs HB2.out.1 hP.mo (by rw [HB2L.out]; decide) HB2.out.2.1 ⟨hP.ne.1, hP.ne.2.2.2.1⟩ (by decide) (by decide) (by decide))
    generalize treeRB S2.2.1 S2.2.2 2306 4 1 = S3 at *
    obtain ⟨d, hd⟩ : ∃ d, S2.1 - 256 = d := ⟨_, rfl⟩
    obtain ⟨m, hm⟩ : ∃ m, S3.1 - 16 = m := ⟨_, rfl⟩
    have HD := Lib.hid (show d < 256 ∧ ((S2.1 : Int) - ((2 ^ 8 : Nat) : Int)) = (d : Int) by
      obtain ⟨_, _, _, h4, h5⟩ := HB2.out
      exact ⟨by omega, by omega⟩)
    have HM := Lib.hid (show m ≤ 15 ∧ ((S3.1 : Int) - ((2 ^ 4 : Nat) : Int)) = (m : Int) by
      obtain ⟨_, _, _, h4, h5⟩ := HB3.out
      exact ⟨by omega, by omega⟩)
    rw [hd, hm]
    have HEV := Lib.hid (fun W (hP : TkS w W g gm gt vb S3.2.1 ⟨S3.2.2, x.kind, x.h⟩) => reven_at g vb S3.2.1 (m - 1) W hP.rs HB3.out.1 (by have := HM.out.1; omega))
    have HEL := Lib.hid (evenR_in (m - 1) 0 HB3.out.1)
    generalize evenR S3.2.1 0 (m - 1) = S4 at *
    have HOR := Lib.hid (or_two m S4.1 HM.out.1 (by have := HEL.out.2.2; omega))
    have HBK := Lib.hid (back_lt HM.out.1 (show S4.1 < 2 ^ (m - 1) by have := HEL.out.2.2; omega))
    obtain ⟨bk, hbk⟩ : ∃ bk, 2 ^ m / 2 + S4.1 = bk := ⟨_, rfl⟩
    rw [hbk] at HOR HBK ⊢
    have hwl : IntKind.i64.wrap (3 + (d : Int)) = 3 + (d : Int) := by have := HD.out.1; rw [IntKind.wrap_i64]; omega
    have hwb : IntKind.i64.wrap (1 + (bk : Int)) = 1 + (bk : Int) := by have := HBK.out; rw [IntKind.wrap_i64]; omega
    obtain ⟨q, hq⟩ : ∃ q, 2 ^ m / 2 = q := ⟨_, rfl⟩
    have HQ := Lib.hid hq
    rw [hq] at HOR
    clear hd hm hbk hq
    go_enter Try.func42, Try.ntmps42
    go_wp2
    clear hW1 hgt
    refine wp_region_walk4 9 [] dis_nil (by kernel_rfl) (by kernel_rfl) (by kernel_rfl) ?_
    simp only [List.take_succ_cons, List.take_zero, List.drop_succ_cons, List.drop_zero]
    refine Walk.val (G := Is (.pointer (some ⟨g, 0, none⟩))) (stays_is _ _) rfl rfl (fun a w hm hd => ⟨wanted_plain rfl, st_move rfl (by rw [hm.outer 1 (by kernel_rfl)]; rfl)⟩) ?_
    refine Walk.val (G := Is (.pointer (some ⟨gm, 0, none⟩))) (stays_is _ _) rfl rfl (fun a w hm hd => ⟨wanted_plain rfl, st_move rfl (by rw [hm.outer 0 (by kernel_rfl)]; rfl)⟩) ?_
    refine Walk.val (G := Is (.pointer (some ⟨gm, 0, none⟩))) (stays_is _ _) rfl rfl (fun a w hm hd => ⟨wanted_plain rfl, st_move rfl (by rw [hm.outer 0 (by kernel_rfl)]; rfl)⟩) ?_
    refine Walk.val (G := Is (.pointer (some ⟨gm, 0, none⟩))) (stays_is _ _) rfl rfl (fun a w hm hd => ⟨wanted_plain rfl, st_nil rfl (hd.at_ 2 rfl rfl rfl rfl)⟩) ?_
    refine Walk.val (G := Is (.pointer (some ⟨gm, 2322, none⟩))) (stays_is _ _) rfl rfl (fun a w hm hd => ⟨wanted_plain rfl, st_fieldM 4 (by decide) rfl (hd.at_ 3 rfl rfl rfl rfl)⟩) ?_
    refine Walk.val (G := Is (.int .i64 (x.kind : Int))) (stays_is _ _) rfl rfl (fun a w hm hd => ⟨wanted_plain rfl, st_cell rfl (fun _ => by kernel_rfl) (hd.at_ 4 rfl rfl rfl rfl) ((HP.out.mo.grown0 (GrownX.none2 hm.grow)).kind HX.out.len)⟩) ?_
    refine Walk.val (G := Is (.pointer (some ⟨gm, 0, none⟩))) (stays_is _ _) rfl rfl (fun a w hm hd => ⟨wanted_plain rfl, st_nil rfl (hd.at_ 1 rfl rfl rfl rfl)⟩) ?_
    refine Walk.val (G := Is (.pointer (some ⟨gm, 0, none⟩))) (stays_is _ _) rfl rfl (fun a w hm hd => ⟨wanted_plain rfl, st_fieldM 0 (by decide) rfl (hd.at_ 6 rfl rfl rfl rfl)⟩) ?_
    refine Walk.val (G := Is (.pointer (some ⟨gm, x.kind, none⟩))) (stays_is _ _) rfl rfl (fun a w hm hd => ⟨wanted_plain rfl, st_idxK rfl (hd.at_ 7 rfl rfl rfl rfl) (hd.at_ 5 rfl rfl rfl rfl) (by have := HX.out.k; omega)⟩) ?_
    intro a9 V9 hm9 hall
    have f8 : Is (.pointer (some ⟨g, 0, none⟩)) (a9.eval (.tmp 8)) V9 := hall 0 _ _ rfl rfl
    have f16 : Is (.pointer (some ⟨gm, x.kind, none⟩)) (a9.eval (.tmp 16)) V9 := hall 8 _ _ rfl rfl
    have hfr := hm9.frame
    simp only [List.take_succ_cons, List.take_zero, List.filterMap_cons, List.filterMap_nil, List.foldl_cons, List.foldl_nil] at hfr
    have hgV9 := GrownX.none2 hm9.grow
    have f8 : a9.eval (.tmp 8) = _ := f8
    rw [f8] at hfr
    have f16 : a9.eval (.tmp 16) = _ := f16
    rw [f16] at hfr
    generalize a9.eval (.tmp 9) = e9 at hfr
    generalize a9.eval (.tmp 10) = e10 at hfr
    generalize a9.eval (.tmp 11) = e11 at hfr
    generalize a9.eval (.tmp 12) = e12 at hfr
    generalize a9.eval (.tmp 13) = e13 at hfr
    generalize a9.eval (.tmp 14) = e14 at hfr
    generalize a9.eval (.tmp 15) = e15 at hfr
    clear hall hm9
    unfold wpList
    rw [hfr]
    clear hfr
    go_simp
    refine .inl ((HBIT.out V9 (HP.out.grown0 hgV9)).mono ?_)
    rintro e w2 ⟨rfl, hr2, hm2, hn2⟩
    have HP2 := Lib.hid ((HP.out.grown0 hgV9).step hr2 hm2 hn2)
    clear hr2 hm2 hn2 HBIT hgV9
    have q0 : ((true.toNat : Int) == 0) = false := rfl
    simp only
    go_wp2_with fail
    refine (HTR.out w2 HP2.out).mono ?_
    rintro e w4 ⟨rfl, hr4, hm4, hn4⟩
    have HP4 := Lib.hid (HP2.out.step hr4 hm4 hn4)
    clear hr4 hm4 hn4 HTR HP2
    rw [HD.out.2]
    go_wp2_with fail
    refine (HTR2.out w4 HP4.out).mono ?_
    rintro e w5 ⟨rfl, hr5, hm5, hn5⟩
    have HP5 := Lib.hid (HP4.out.step hr5 hm5 hn5)
    clear hr5 hm5 hn5 HTR2 HP4
    rw [HM.out.2]
    go_wp2
    refine wp_region_walk3 8 [(6, g)] (dis_one 6 g) (by kernel_rfl) (by kernel_rfl) (by kernel_rfl) ?_
    simp only [List.take_succ_cons, List.take_zero, List.drop_succ_cons, List.drop_zero]
    refine Walk.val (G := Is (.int .i64 (m : Int))) (stays_is _ _) rfl rfl (fun a w hm hd => ⟨wanted_plain rfl, st_move rfl (by rw [hm.outer 6 (by kernel_rfl)]; rfl)⟩) ?_
    refine Walk.val (G := Is (.int .i64 (2 ^ m))) (stays_is _ _) rfl rfl (fun a w hm hd => ⟨wanted_plain rfl, st_shlP2 rfl (hd.at_ 0 rfl rfl rfl rfl) (by have := HM.out; omega)⟩) ?_
    refine Walk.val (G := Is (.int .i64 (q : Int))) (stays_is _ _) rfl rfl (fun a w hm hd => ⟨wanted_plain rfl, st_shr1 rfl (hd.at_ 1 rfl rfl rfl rfl) HQ.out⟩) ?_
    refine Walk.val (G := Is (.pointer (some ⟨g, 0, none⟩))) (stays_is _ _) rfl rfl (fun a w hm hd => ⟨wanted_plain rfl, st_move rfl (by rw [hm.outer 1 (by kernel_rfl)]; rfl)⟩) ?_
    refine Walk.val (G := Is (.int .i64 (m : Int))) (stays_is _ _) rfl rfl (fun a w hm hd => ⟨wanted_plain rfl, st_move rfl (by rw [hm.outer 6 (by kernel_rfl)]; rfl)⟩) ?_
    refine Walk.call (G := Is (.int .i64 ((m - 1 : Nat) : Int))) (stays_is _ _) rfl 76 rfl (fun a w hm ha hd => ⟨wanted_plain rfl, _, ex_call1 Try.func76 (by kernel_rfl) (by kernel_rfl) rfl, by rw [show a.eval (.tmp 42) = _ from (hd.at_ 4 rfl rfl rfl rfl)]; exact Val.made (below_any m (by have := HM.out; omega) w)⟩) ?_
    refine Walk.call (G := fun v W => v = .int .i64 (S4.1 : Int) ∧ TkS w W g gm gt vb S4.2 ⟨S3.2.2, x.kind, x.h⟩) (fun i hi v W W' h hg => ⟨h.1, h.2.grown0 (by rw [show rowAt [(6, g)] i = none by simp [rowAt]; omega] at hg; exact hg)⟩) rfl 75 rfl (fun a w hm ha hd => ⟨wanted_plain rfl, _, ex_call2 Try.func75 (by kernel_rfl) (by kernel_rfl) rfl, by
      rw [show a.eval (.tmp 41) = _ from (hd.at_ 3 rfl rfl rfl rfl), show a.eval (.tmp 43) = _ from (hd.at_ 5 rfl rfl rfl rfl)]
      have hT := HP5.out.grown0 (grown_ahead hm.grow (ha g rfl HP5.out.rs.lt))
      refine (HEV.out w hT).mono ?_
      rintro e w6 ⟨rfl, hr6, hg6⟩
      exact ⟨_, rfl, hg6, rfl, hT.even hr6 hg6⟩⟩) ?_
    refine Walk.val (G := Is (.int .i64 (bk : Int))) (stays_is _ _) rfl rfl (fun a w hm hd => ⟨wanted_plain rfl, st_orN rfl (hd.at_ 2 rfl rfl rfl rfl) (hd.at_ 6 rfl rfl rfl rfl).1 HOR.out⟩) ?_
    intro a8 V8 hm8 hall
    have f45 : Is (.int .i64 (bk : Int)) (a8.eval (.tmp 45)) V8 := hall 7 _ _ rfl rfl
    have HP6 := Lib.hid (show TkS w V8 g gm gt vb S4.2 ⟨S3.2.2, x.kind, x.h⟩ from (hall 6 _ _ rfl rfl).2)
    have hfr := hm8.frame
    simp only [List.take_succ_cons, List.take_zero, List.filterMap_cons, List.filterMap_nil, List.foldl_cons, List.foldl_nil] at hfr
    have f45 : a8.eval (.tmp 45) = _ := f45
    rw [f45] at hfr
    generalize a8.eval (.tmp 38) = e38 at hfr
    generalize a8.eval (.tmp 39) = e39 at hfr
    generalize a8.eval (.tmp 40) = e40 at hfr
    generalize a8.eval (.tmp 41) = e41 at hfr
    generalize a8.eval (.tmp 42) = e42 at hfr
    generalize a8.eval (.tmp 43) = e43 at hfr
    generalize a8.eval (.tmp 44) = e44 at hfr
    clear hall hm8
    unfold wpList
    rw [hfr]
    clear hfr
    go_simp
    unfold wpList
    go_simp
    rename ∀ (a : Act) (w : World), Code.wp _ _ _ a w → _ => hK
    refine .inl (hK _ _ ?_)
    go_wp2_with (refine wpList_store_row _ rfl rfl _ _ 37 rfl gt 37 _ (tokC ⟨0, 3 + (d : Int), 1 + (bk : Int)⟩) rfl rfl HP6.out.tk rfl (tokC_one _) (by kernel_rfl) ?_; intro W' hr' hg')
    have HE := Lib.hid (HP6.out.done hg')
    have HR := Lib.hid hr'
    clear hr' hg'
    go_wp2
    refine bodyPost_ret (v := tokV ⟨0, 3 + (d : Int), 1 + (bk : Int)⟩) ?_ rfl ⟨rfl, HE.out.1, HE.out.2.1, HE.out.2.2⟩
    exact results_row Try.results42 gt 37 (tokC ⟨0, 3 + (d : Int), 1 + (bk : Int)⟩) _ rfl HR.out Try.underlying37 rfl (by kernel_rfl)
end Go.Proofs.Ytibofgokdjbomaa
