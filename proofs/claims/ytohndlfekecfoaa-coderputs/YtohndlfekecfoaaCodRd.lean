/-
  coder's Reader over this program: opened, next, widen, take.
-/
import Derived.Test.YtohndlfekecfoaaCodR
import Derived.Test.YtohndlfekecfoaaCodEnd
namespace Go.Proofs.Ytohndlfekecfoaa
set_option maxRecDepth 1000000
open Go.RowKit

/-- Block g is a reader that keeps r; what it reads lies in row vb. -/
def Rs (w : World) (g : Nat) (vb : Option Nat) (r : Rst) : Prop :=
  ∃ v, Row w g 66 [v, .int .u32 (r.num : Int), .int .u32 (r.width : Int), .bool r.short] ∧ Rd w v (bytesV r.rest) ∧ (∀ b, v.ownBlock = some b → vb = some b) ∧ vb ≠ some g
theorem Rs.lt {w : World} {g : Nat} {vb : Option Nat} {r : Rst} (h : Rs w g vb r) : g < w.heap.size := by
  obtain ⟨v, hrow, _⟩ := h
  exact hrow.lt
theorem Rs.grown {w w' : World} {g : Nat} {vb : Option Nat} {r : Rst} {row : Option Nat} (h : Rs w g vb r) (hg : w.grownBy w' row) (h1 : some g ≠ row) (h2 : ∀ b, vb = some b → some b ≠ row) : Rs w' g vb r := by
  obtain ⟨v, hrow, hrd, hvb, hne⟩ := h
  exact ⟨v, hrow.grown hg h1, hrd.grown hg (fun b hb => h2 b (hvb b hb)), hvb, hne⟩
theorem Rs.grown0 {w w' : World} {g : Nat} {vb : Option Nat} {r : Rst} (h : Rs w g vb r) (hg : w.grownBy w' none) : Rs w' g vb r := h.grown hg (by simp) (by simp)

set_option maxHeartbeats 400000 in
theorem opened_nil (w : World) : Calls Try.prog 31 #[.pointer none] w (SameW (.bool false) w) := by
  go_enter Try.func31, Try.ntmps31
  go_wp2
  go_ret
  exact ⟨rfl, rfl⟩
set_option maxHeartbeats 400000 in
theorem opened_at (g : Nat) (vb : Option Nat) (r : Rst) (w : World) (h : Rs w g vb r) (hw : 0 < r.width) : Calls Try.prog 31 #[.pointer (some ⟨g, 0, none⟩)] w (SameW (.bool true) w) := by
  obtain ⟨v, hrow, _⟩ := h
  have r2 := hrow.cell (j := 2) rfl
  have hd : decide (0 < (r.width : Int)) = true := by simp; omega
  have hd' : decide (0 < r.width) = true := by simp; omega
  clear hrow
  generalize r.width = m at *
  go_enter Try.func31, Try.ntmps31
  go_wp2
  go_ret
  exact ⟨rfl, rfl⟩

/-- What a call of a reader leaves. -/
def ROut (g : Nat) (vb : Option Nat) (r : Rst) (w : World) (e : Ending) (w' : World) : Prop := e = .returned (.tuple #[]) ∧ Rs w' g vb r ∧ w.grownBy w' (some g)
theorem or_byte (n : Nat) (x : UInt8) (h : n < 16777216) : bits .or .u32 ((n : Int) * 256) (x.toNat : Int) = ((n * 256 + x.toNat : Nat) : Int) := by
  have hx := UInt8.toNat_lt x
  show IntKind.u32.wrap ((BitVec.ofInt 32 ((n : Int) * 256) ||| BitVec.ofInt 32 (x.toNat : Int)).toNat : Int) = _
  rw [BitVec.toNat_or, show (BitVec.ofInt 32 ((n : Int) * 256)).toNat = 2 ^ 8 * n by rw [BitVec.toNat_ofInt]; omega, show (BitVec.ofInt 32 (x.toNat : Int)).toNat = x.toNat by rw [BitVec.toNat_ofInt]; omega, ← Nat.two_pow_add_eq_or_of_lt (by omega : x.toNat < 2 ^ 8) n, IntKind.wrap_u32]
  omega

theorem rs_store (g : Nat) (vb : Option Nat) (u : Value) (rest : List UInt8) (m width : Nat) (short : Bool) (W : World) (v a : Value) (x y : Value) (hr : Row W g 66 [v, a, x, y]) (hx : x = .int .u32 (width : Int)) (hy : y = .bool short)
    (hd : Rd W u (bytesV rest)) (hu : ∀ b, u.ownBlock = some b → vb = some b) (hne : vb ≠ some g) :
    Rs ((W.setCell ⟨g, 1, none⟩ (.int .u32 (m : Int))).setCell ⟨g, 0, none⟩ u) g vb ⟨rest, m, width, short⟩ ∧ W.grownBy ((W.setCell ⟨g, 1, none⟩ (.int .u32 (m : Int))).setCell ⟨g, 0, none⟩ u) (some g) := by
  subst hx hy
  have hg := grown_trans2 (grown_set W g 1 (.int .u32 (m : Int))) (grown_set _ g 0 u)
  exact ⟨⟨u, (hr.set 1 _).set 0 u, hd.grown hg (fun b hb => by rw [← hu b hb]; exact hne), hu, hne⟩, hg⟩
set_option maxHeartbeats 4000000 in
theorem next_at (g : Nat) (vb : Option Nat) (r : Rst) (w : World) (h : Rs w g vb r) (hn : r.num < 16777216) :
    Calls Try.prog 30 #[.pointer (some ⟨g, 0, none⟩)] w (ROut g vb (nextR r) w) := by
  obtain ⟨v, hrow, hrd, hvb, hne⟩ := h
  obtain ⟨rest, num, width, short⟩ := r
  simp only at hrow hrd hn
  obtain ⟨A, c, rfl⟩ := hrd.form
  rw [bytesV_len] at *
  have r1 := hrow.cell (j := 1) rfl
  have f1 := hrow.frozen 1
  have hn2 : (num : Int) * 256 % 4294967296 = (num : Int) * 256 := by omega
  have R1 := hrow.set 1 (.int .u32 ((num : Int) * 256))
  have G1 := grown_set w g 1 (.int .u32 ((num : Int) * 256))
  have D1 := hrd.grown G1 (fun b hb => by rw [← hvb b hb]; exact hne)
  obtain ⟨W1, hW1⟩ : ∃ W, w.setCell ⟨g, 1, none⟩ (.int .u32 ((num : Int) * 256)) = W := ⟨_, rfl⟩
  rw [hW1] at R1 G1 D1
  have R1 : Row W1 g _ [_, .int .u32 ((num : Int) * 256), .int .u32 (width : Int), .bool short] := R1
  have c0 := R1.cell (j := 0) rfl
  have c1 := R1.cell (j := 1) rfl
  have HN := Lib.hid hn
  have HR1 := Lib.hid R1
  have HG1 := Lib.hid G1
  have HD1 := Lib.hid D1
  have HV := Lib.hid (And.intro hvb hne)
  clear hrow hrd hvb hne R1 G1 D1
  cases rest with
  | nil =>
    have G2 := grown_set W1 g 3 (.bool true)
    have R2 := HR1.out.set 3 (.bool true)
    have k3 := HR1.out.frozen 3
    have c3 := HR1.out.cell (j := 3) rfl
    have HE := Lib.hid (And.intro R2 (And.intro (grown_trans2 HG1.out G2) (HD1.out.grown G2 (fun b hb => by rw [← HV.out.1 b hb]; exact HV.out.2))))
    clear G2 R2
    go_enter Try.func30, Try.ntmps30
    go_wp2
    refine bodyPost_ret (results_none rfl _ _ _) rfl ?_
    obtain ⟨h1, h2, h3⟩ := HE.out
    exact ⟨rfl, ⟨_, by rw [← show (((num * 256 : Nat) : Int)) = (num : Int) * 256 by omega] at h1; exact h1, h3, HV.out.1, HV.out.2⟩, h2⟩
  | cons x t =>
    obtain ⟨_, hlc, hcm⟩ := HD1.out.len
    obtain ⟨ad, rfl, hc⟩ := HD1.out.cells (by simp [bytesV])
    have cx := hc 0 (byteV x) rfl
    rw [show ad.add 0 = ad by unfold Addr.add; simp] at cx
    unfold byteV at cx
    have cx : W1.drew.cell? ad = some (.int .u8 (x.toNat : Int)) := cx
    have hor := or_byte num x hn
    have hx := UInt8.toNat_lt x
    have d0 : W1.drew.cell? ⟨g, 0, none⟩ = _ := c0
    have d1 : W1.drew.cell? ⟨g, 1, none⟩ = _ := c1
    have fd0 : W1.drew.frozen? ⟨g, 0, none⟩ = false := HR1.out.frozen 0
    have fd1 : W1.drew.frozen? ⟨g, 1, none⟩ = false := HR1.out.frozen 1
    obtain ⟨m, hm⟩ : ∃ m, m = num * 256 + x.toNat := ⟨_, rfl⟩
    have HMM := Lib.hid hm
    rw [← hm] at hor
    have hw32 : IntKind.u32.wrap (x.toNat : Int) = (x.toNat : Int) := by rw [IntKind.wrap_u32]; omega
    obtain ⟨xn, hxn⟩ : ∃ xn, xn = x.toNat := ⟨_, rfl⟩
    have HX := Lib.hid hxn
    rw [← hxn] at cx hor hx hm HMM hw32
    clear hxn
    obtain ⟨n, hn1⟩ : ∃ n, n = t.length := ⟨_, rfl⟩
    have hln : (x :: t).length = n + 1 := by rw [hn1]; rfl
    have HLN := Lib.hid (And.intro hn1 hln)
    rw [hln] at *
    clear hm hln hc hn1
    go_enter Try.func30, Try.ntmps30
    go_wp2
    refine wp_region_still_tail 14 (by kernel_rfl) (by kernel_rfl) ?_
    change wpStill _ _ W1.drew (fun a' => wpList _ _ _ _ a' W1.drew) _ _
    generalize hW4 : W1.drew = W4 at *
    simp only [List.take_succ_cons, List.take_zero, List.drop_succ_cons, List.drop_zero]
    repeat still_step
    refine wpStill_nil ?_
    go_wp2
    all_goals refine bodyPost_end (results_none rfl _ _ _) rfl ?_
    · subst h
      have ht : t = [] := List.length_eq_zero_iff.1 (by have h2 : (x :: t).length = t.length + 1 := rfl; omega)
      subst ht
      have h4 := rs_store g vb (.slice (some ad) 0 0) [] m width short W4 _ _ _ _ (by rw [← hW4]; exact HR1.out) rfl rfl (Rd.empty _ _ _ (Nat.zero_le _)) (fun b hb => HV.out.1 b hb) HV.out.2
      refine ⟨rfl, ?_, ?_⟩
      · have := h4.1
        rw [HMM.out, HX.out] at this ⊢
        exact this
      · refine grown_trans2 HG1.out ?_
        have := h4.2
        rw [← hW4] at this ⊢
        exact ⟨this.os, this.tape, this.output, this.size, this.block⟩
    · have hdr := HD1.out.drop (n := 1) (by simp)
      rw [show Option.map (fun a => a.add 1) (some ad) = some ⟨ad.block, ad.off + 1, none⟩ by rw [Option.map_some, Addr.add]; simp] at hdr
      have hdr : Rd W4 (.slice (some ⟨ad.block, ad.off + 1, none⟩) t.length (c - 1)) (bytesV t) := by rw [← hW4]; exact hdr
      have h4 := rs_store g vb (.slice (some ⟨ad.block, ad.off + 1, none⟩) t.length (c - 1)) t m width short W4 _ _ _ _ (by rw [← hW4]; exact HR1.out) rfl rfl hdr (fun b hb => HV.out.1 b hb) HV.out.2
      refine ⟨rfl, ?_, ?_⟩
      · have := h4.1
        rw [HMM.out, HX.out] at this ⊢
        exact this
      · refine grown_trans2 HG1.out ?_
        have := h4.2
        rw [← hW4] at this ⊢
        exact ⟨this.os, this.tape, this.output, this.size, this.block⟩

section
variable {o : Oper} {a : Act} {w : World}
theorem st_fieldR1 {x : Operand} {g : Nat} (h : o.op = .fieldAddr 66 x 1) (hx : Is (.pointer (some ⟨g, 0, none⟩)) (a.eval x) w) : Runs (Is (.pointer (some ⟨g, 1, none⟩))) o a w := by
  have hx' : a.eval x = .pointer (some ⟨g, 0, none⟩) := hx
  refine ⟨_, ?_, rfl⟩
  simp only [execOp, h, hx']
  kernel_rfl
theorem st_fieldR2 {x : Operand} {g : Nat} (h : o.op = .fieldAddr 66 x 2) (hx : Is (.pointer (some ⟨g, 0, none⟩)) (a.eval x) w) : Runs (Is (.pointer (some ⟨g, 2, none⟩))) o a w := by
  have hx' : a.eval x = .pointer (some ⟨g, 0, none⟩) := hx
  refine ⟨_, ?_, rfl⟩
  simp only [execOp, h, hx']
  kernel_rfl
theorem st_min32 {x y : Operand} {p q r : Int} (h : o.op = .call { callee := .builtin .min, args := #[x, y], argTypes := #[55, 55] }) (hx : Is (.int .u32 p) (a.eval x) w) (hy : Is (.int .u32 q) (a.eval y) w) (e : min p q = r) : Runs (Is (.int .u32 r)) o a w := by
  subst e
  have hx' : a.eval x = .int .u32 p := hx
  have hy' : a.eval y = .int .u32 q := hy
  refine ⟨_, ?_, rfl⟩
  unfold execOp
  simp only [h, resolve, invoke, builtin, List.map_toArray, List.map_cons, List.map_nil, hx', hy']
  simp [go_sem]
  rw [Int.min_def]
  split <;> split <;> omega
end
theorem wpList_storeW {ops : Array Oper} {rest : List Oper} {o : Oper} {a : Act} {w : World} {Q : Exit → Act → World → Prop} (hgd : o.guard = none) (hdst : o.dst = none) (x y : Operand) (ho : o.op = .store 55 x y) (g i : Nat) (t : TypeId) (cs : List Value) (r : Int)
    (hv : a.eval x = .pointer (some ⟨g, i, none⟩)) (hy : a.eval y = .int .u32 r) (hr : Row w g t cs) (hi : i < cs.length) (h : wpList Try.prog ops Q rest a (w.setCell ⟨g, i, none⟩ (.int .u32 r))) : wpList Try.prog ops Q (o :: rest) a w := by
  have hf := hr.frozen i
  have hc := hr.cell (j := i) (u := cs[i]) (List.getElem?_eq_getElem hi)
  refine wpList_plain hgd fun _ hK => ?_
  have hrun : (execOp a.eval o).run Try.prog w = .ok .skip (w.setCell ⟨g, i, none⟩ (.int .u32 r)) := by
    simp only [execOp, ho, hv, hy]
    simp [go_sem, hc, hf]
  unfold Oper.wp
  rw [hrun, Oper.upon_skip]
  refine hK _ _ ?_
  rw [hdst]
  exact h

set_option maxRecDepth 1000000 in
set_option maxHeartbeats 4000000 in
theorem rwiden_at (g : Nat) (vb : Option Nat) (r : Rst) (w : World) (h : Rs w g vb r) (h0 : r.num ≤ r.width) (h1 : 65536 ≤ r.width) (h2 : r.width < 4294967296) :
    Calls Try.prog 36 #[.pointer (some ⟨g, 0, none⟩)] w (ROut g vb (widR r) w) := by
  have HW := Lib.hid h
  obtain ⟨v, hrow, hrd, hvb, hne⟩ := h
  have r2 := hrow.cell (j := 2) rfl
  have HV := Lib.hid (And.intro hvb hne)
  clear hrow hrd hvb hne
  by_cases hlt : r.width < 16777216
  · have HT := Lib.hid (next_at g vb r w HW.out (by omega))
    have HE := Lib.hid (show widR r = ⟨(nextR r).rest, min (nextR r).num (r.width * 256), r.width * 256, (nextR r).short⟩ by rw [widR, if_pos hlt])
    have HTW := Lib.hid (show (nextR r).width = r.width by unfold nextR; split <;> rfl)
    have HNN := Lib.hid (show (nextR r).num < 4294967296 by
      unfold nextR
      split
      · show r.num * 256 < _; omega
      · rename_i x t _
        have := UInt8.toNat_lt x
        show r.num * 256 + x.toNat < _
        omega)
    generalize r.width = m at *
    have HMM := Lib.hid (And.intro h1 hlt)
    have hd : decide (16777216 ≤ (m : Int)) = false := by simp; omega
    clear h0 h1 h2 hlt
    go_enter Try.func36, Try.ntmps36
    go_wp2
    refine wp_scope_jumps 0 (fun a' W => ∃ (u2 u3 u4 u5 u6 u7 u8 u9 u10 u11 u12 u13 u14 u15 u16 u17 u18 u19 u20 u21 u22 u23 u24 u25 u26 u27 : Value), a' = { tmps := #[.pointer (some ⟨g, 0, none⟩), undef, u2, u3, u4, u5, u6, u7, u8, u9, u10, u11, u12, u13, u14, u15, u16, u17, u18, u19, u20, u21, u22, u23, u24, u25, u26, u27], defers := [] } ∧ Rs W g vb (widR r) ∧ w.grownBy W (some g)) (fun _ _ => 0) rfl ?_ ?_
    · go_wp2
      go_step3
      go_wp2_with fail
      refine (HT.out).mono ?_
      rintro e w1 ⟨rfl, hrs1, hg1⟩
      have HG1 := Lib.hid hg1
      obtain ⟨v1, hrow1, hrd1, hvb1, hne1⟩ := hrs1
      rw [HTW.out] at hrow1
      have r2' := hrow1.cell (j := 2) rfl
      have f2' := hrow1.frozen 2
      have HR1 := Lib.hid hrow1
      have HD1 := Lib.hid (And.intro hrd1 hvb1)
      clear hrow1 hrd1 hvb1 hne1 hg1 r2 HT
      have hmm : m * 256 < 4294967296 := by have := HMM.out; omega
      obtain ⟨W2, hW2⟩ : ∃ W, w1.setCell ⟨g, 2, none⟩ (.int .u32 ((m : Int) * 256)) = W := ⟨_, rfl⟩
      have R2 := HR1.out.set 2 (.int .u32 ((m : Int) * 256))
      have G2 := grown_set w1 g 2 (.int .u32 ((m : Int) * 256))
      rw [hW2] at R2 G2
      have R2 : Row W2 g _ [v1, .int .u32 (((nextR r).num : Nat) : Int), .int .u32 ((m : Int) * 256), .bool (nextR r).short] := R2
      have d1 : W2.drew.cell? ⟨g, 1, none⟩ = _ := R2.cell (j := 1) rfl
      have d2 : W2.drew.cell? ⟨g, 2, none⟩ = _ := R2.cell (j := 2) rfl
      have fd1 : W2.drew.frozen? ⟨g, 1, none⟩ = false := R2.frozen 1
      have HR2 := Lib.hid R2
      have HG2 := Lib.hid G2
      clear R2 G2
      go_wp2
      refine wp_region_walk3 12 [] dis_nil (by kernel_rfl) (by kernel_rfl) (by kernel_rfl) ?_
      simp only [List.take_succ_cons, List.take_zero, List.drop_succ_cons, List.drop_zero]
      refine Walk.val (G := Is (.pointer (some ⟨g, 0, none⟩))) (stays_is _ _) rfl rfl (fun a w hm hd => ⟨wanted_plain rfl, st_move rfl (by rw [hm.outer 0 (by kernel_rfl)]; rfl)⟩) ?_
      refine Walk.val (G := Is (.pointer (some ⟨g, 0, none⟩))) (stays_is _ _) rfl rfl (fun a w hm hd => ⟨wanted_plain rfl, st_move rfl (by rw [hm.outer 0 (by kernel_rfl)]; rfl)⟩) ?_
      refine Walk.val (G := Is (.pointer (some ⟨g, 0, none⟩))) (stays_is _ _) rfl rfl (fun a w hm hd => ⟨wanted_plain rfl, st_nil rfl (hd.at_ 1 rfl rfl rfl rfl)⟩) ?_
      refine Walk.val (G := Is (.pointer (some ⟨g, 1, none⟩))) (stays_is _ _) rfl rfl (fun a w hm hd => ⟨wanted_plain rfl, st_fieldR1 rfl (hd.at_ 2 rfl rfl rfl rfl)⟩) ?_
      refine Walk.val (G := Is (.int .u32 (((nextR r).num : Nat) : Int))) (stays_is _ _) rfl rfl (fun a w hm hd => ⟨wanted_plain rfl, st_cell rfl (fun _ => by kernel_rfl) (hd.at_ 3 rfl rfl rfl rfl) ((HR2.out.grown0 (GrownX.none2 hm.grow)).cell (j := 1) rfl)⟩) ?_
      refine Walk.val (G := Is (.pointer (some ⟨g, 0, none⟩))) (stays_is _ _) rfl rfl (fun a w hm hd => ⟨wanted_plain rfl, st_move rfl (by rw [hm.outer 0 (by kernel_rfl)]; rfl)⟩) ?_
      refine Walk.val (G := Is (.pointer (some ⟨g, 0, none⟩))) (stays_is _ _) rfl rfl (fun a w hm hd => ⟨wanted_plain rfl, st_nil rfl (hd.at_ 5 rfl rfl rfl rfl)⟩) ?_
      refine Walk.val (G := Is (.pointer (some ⟨g, 2, none⟩))) (stays_is _ _) rfl rfl (fun a w hm hd => ⟨wanted_plain rfl, st_fieldR2 rfl (hd.at_ 6 rfl rfl rfl rfl)⟩) ?_
      refine Walk.val (G := Is (.int .u32 ((m : Int) * 256))) (stays_is _ _) rfl rfl (fun a w hm hd => ⟨wanted_plain rfl, st_cell rfl (fun _ => by kernel_rfl) (hd.at_ 7 rfl rfl rfl rfl) ((HR2.out.grown0 (GrownX.none2 hm.grow)).cell (j := 2) rfl)⟩) ?_
      refine Walk.val (G := Is (.int .u32 ((min (nextR r).num (m * 256) : Nat) : Int))) (stays_is _ _) rfl rfl (fun a w hm hd => ⟨wanted_plain rfl, st_min32 rfl (hd.at_ 4 rfl rfl rfl rfl) (hd.at_ 8 rfl rfl rfl rfl) (by omega)⟩) ?_
      refine Walk.val (G := Is (.pointer (some ⟨g, 0, none⟩))) (stays_is _ _) rfl rfl (fun a w hm hd => ⟨wanted_plain rfl, st_nil rfl (hd.at_ 0 rfl rfl rfl rfl)⟩) ?_
      refine Walk.val (G := Is (.pointer (some ⟨g, 1, none⟩))) (stays_is _ _) rfl rfl (fun a w hm hd => ⟨wanted_plain rfl, st_fieldR1 rfl (hd.at_ 10 rfl rfl rfl rfl)⟩) ?_
      intro a9 V9 hm9 hall
      have f16 : Is (.pointer (some ⟨g, 0, none⟩)) (a9.eval (.tmp 16)) V9 := hall 0 _ _ rfl rfl
      have f17 : Is (.pointer (some ⟨g, 0, none⟩)) (a9.eval (.tmp 17)) V9 := hall 1 _ _ rfl rfl
      have f18 : Is (.pointer (some ⟨g, 0, none⟩)) (a9.eval (.tmp 18)) V9 := hall 2 _ _ rfl rfl
      have f19 : Is (.pointer (some ⟨g, 1, none⟩)) (a9.eval (.tmp 19)) V9 := hall 3 _ _ rfl rfl
      have f20 : Is (.int .u32 (((nextR r).num : Nat) : Int)) (a9.eval (.tmp 20)) V9 := hall 4 _ _ rfl rfl
      have f21 : Is (.pointer (some ⟨g, 0, none⟩)) (a9.eval (.tmp 21)) V9 := hall 5 _ _ rfl rfl
      have f22 : Is (.pointer (some ⟨g, 0, none⟩)) (a9.eval (.tmp 22)) V9 := hall 6 _ _ rfl rfl
      have f23 : Is (.pointer (some ⟨g, 2, none⟩)) (a9.eval (.tmp 23)) V9 := hall 7 _ _ rfl rfl
      have f24 : Is (.int .u32 ((m : Int) * 256)) (a9.eval (.tmp 24)) V9 := hall 8 _ _ rfl rfl
      have f25 : Is (.int .u32 ((min (nextR r).num (m * 256) : Nat) : Int)) (a9.eval (.tmp 25)) V9 := hall 9 _ _ rfl rfl
      have f26 : Is (.pointer (some ⟨g, 0, none⟩)) (a9.eval (.tmp 26)) V9 := hall 10 _ _ rfl rfl
      have f27 : Is (.pointer (some ⟨g, 1, none⟩)) (a9.eval (.tmp 27)) V9 := hall 11 _ _ rfl rfl
      have hfr := hm9.frame
      simp only [List.take_succ_cons, List.take_zero, List.filterMap_cons, List.filterMap_nil, List.foldl_cons, List.foldl_nil] at hfr
      have hgV9 := GrownX.none2 hm9.grow
      have f16 : a9.eval (.tmp 16) = _ := f16
      rw [f16] at hfr
      have f17 : a9.eval (.tmp 17) = _ := f17
      rw [f17] at hfr
      have f18 : a9.eval (.tmp 18) = _ := f18
      rw [f18] at hfr
      have f19 : a9.eval (.tmp 19) = _ := f19
      rw [f19] at hfr
      have f20 : a9.eval (.tmp 20) = _ := f20
      rw [f20] at hfr
      have f21 : a9.eval (.tmp 21) = _ := f21
      rw [f21] at hfr
      have f22 : a9.eval (.tmp 22) = _ := f22
      rw [f22] at hfr
      have f23 : a9.eval (.tmp 23) = _ := f23
      rw [f23] at hfr
      have f24 : a9.eval (.tmp 24) = _ := f24
      rw [f24] at hfr
      have f25 : a9.eval (.tmp 25) = _ := f25
      rw [f25] at hfr
      have f26 : a9.eval (.tmp 26) = _ := f26
      rw [f26] at hfr
      have f27 : a9.eval (.tmp 27) = _ := f27
      rw [f27] at hfr
      clear hall hm9
      have R9 := HR2.out.grown0 hgV9
      have hgW := grown_trans2 (grown_none hgV9 (some g)) (grown_set V9 g 1 (.int .u32 ((min (nextR r).num (m * 256) : Nat) : Int)))
      refine wpList_storeW rfl rfl _ _ rfl g 1 _ _ _ f27 f25 R9 (by simp) ?_
      have R3 := R9.set 1 (.int .u32 ((min (nextR r).num (m * 256) : Nat) : Int))
      have HD3 := Lib.hid (HD1.out.1.grown (grown_trans2 HG2.out hgW) (fun b hb => by rw [← HD1.out.2 b hb]; exact HV.out.2))
      have HG3 := Lib.hid (grown_trans2 HG1.out (grown_trans2 HG2.out hgW))
      generalize V9.setCell ⟨g, 1, none⟩ (.int .u32 ((min (nextR r).num (m * 256) : Nat) : Int)) = W3 at *
      have HR3 := Lib.hid R3
      clear R3 R9 hgW hgV9
      clear f16
      clear f17
      clear f18
      clear f19
      clear f20
      clear f21
      clear f22
      clear f23
      clear f24
      clear f25
      clear f26
      clear f27
      unfold wpList
      rw [hfr]
      clear hfr
      go_simp
      go_wp2
      go_step3
      refine ⟨rfl, _, _, _, _, _, _, _, _, _, _, _, _, _, _, _, _, _, _, _, _, _, _, _, _, _, _, rfl, ?_, HG3.out⟩
      rw [HE.out]
      refine ⟨v1, ?_, HD3.out, HD1.out.2, HV.out.2⟩
      have := HR3.out
      rw [show ((m : Int) * 256) = ((m * 256 : Nat) : Int) by omega] at this
      exact this
    · rintro a' W ⟨u2, u3, u4, u5, u6, u7, u8, u9, u10, u11, u12, u13, u14, u15, u16, u17, u18, u19, u20, u21, u22, u23, u24, u25, u26, u27, rfl, ht1, hn1⟩
      have HE1 := Lib.hid (And.intro ht1 hn1)
      obtain ⟨v1, hrow1, _⟩ := ht1
      rw [HE.out] at hrow1
      have hrow1 : Row W g _ [v1, _, .int .u32 ((m * 256 : Nat) : Int), _] := hrow1
      have r2' := hrow1.cell (j := 2) rfl
      have hd2 : decide (16777216 ≤ ((m * 256 : Nat) : Int)) = true := by have := HMM.out; simp; omega
      generalize m * 256 = m' at r2' hd2
      clear hrow1 r2 hn1 hd HT
      go_wp2
      simp only [Exit.jump]
      refine bodyPost_ret (results_none rfl _ _ _) rfl ?_
      exact ⟨rfl, HE1.out.1, HE1.out.2⟩
  · have HE := Lib.hid (show widR r = r by rw [widR, if_neg hlt])
    generalize r.width = m at *
    have hd : decide (16777216 ≤ (m : Int)) = true := by simp; omega
    clear h0 h1 h2 hlt
    go_enter Try.func36, Try.ntmps36
    go_wp2
    go_step3
    go_wp2
    go_step3
    go_wp2
    rw [Exit.noGoto_ret]
    refine bodyPost_ret (results_none rfl _ _ _) rfl ?_
    exact ⟨rfl, by rw [HE.out]; exact HW.out, grown_refl _ _⟩
end Go.Proofs.Ytohndlfekecfoaa
