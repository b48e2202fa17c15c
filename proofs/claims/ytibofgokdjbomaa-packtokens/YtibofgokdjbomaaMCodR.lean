/-
  Several texts in one file.
-/
import Derived.Test.YtibofgokdjbomaaCod
import Derived.Test.YtibofgokdjbomaaMCodW
/-
  Layer 10's words: taking bits (of no program).
-/
namespace Go.Proofs.Ytibofgokdjbomaa
set_option maxRecDepth 1000000

/-- What a reader keeps: the bytes that were not taken, the number, the width, whether a byte was missing. -/
structure Rst where
  rest : List UInt8
  num : Nat
  width : Nat
  short : Bool
/-- The next byte behind the number. -/
def nextR (r : Rst) : Rst := match r.rest with
  | [] => ⟨[], r.num * 256, r.width, true⟩
  | x :: t => ⟨t, r.num * 256 + x.toNat, r.width, r.short⟩
def widR (r : Rst) : Rst := if r.width < 16777216 then ⟨(nextR r).rest, min (nextR r).num (r.width * 256), r.width * 256, (nextR r).short⟩ else r
def takeR (r : Rst) (bound : Nat) : Bool × Rst := if r.num < bound then (false, widR ⟨r.rest, r.num, bound, r.short⟩) else (true, widR ⟨r.rest, r.num - bound, r.width - bound, r.short⟩)
/-- What always holds between two steps. -/
structure Okr (r : Rst) : Prop where
  num : r.num ≤ r.width
  wide : 16777216 ≤ r.width
  most : r.width < 4294967296
theorem widR_ok {r : Rst} (h1 : r.num ≤ r.width) (h2 : 65536 ≤ r.width) (h3 : r.width < 4294967296) : Okr (widR r) := by
  unfold widR
  split
  · exact ⟨Nat.min_le_right _ _, by show 16777216 ≤ r.width * 256; omega, by show r.width * 256 < _; omega⟩
  · exact ⟨h1, by omega, h3⟩
theorem takeR_ok {r : Rst} {bound : Nat} (h : Okr r) (h1 : 65536 ≤ bound) (h2 : bound + 65536 ≤ r.width) : Okr (takeR r bound).2 := by
  have := h.num
  have := h.most
  unfold takeR
  split
  · exact widR_ok (by show r.num ≤ bound; omega) h1 (by show bound < _; omega)
  · exact widR_ok (by show r.num - bound ≤ r.width - bound; omega) (by show _ ≤ r.width - bound; omega) (by show r.width - bound < _; omega)
theorem nextR_len (r : Rst) : (nextR r).rest.length ≤ r.rest.length := by
  unfold nextR
  split
  · simp
  · rename_i h; rw [h]; simp
theorem widR_len (r : Rst) : (widR r).rest.length ≤ r.rest.length := by
  unfold widR
  split
  · exact nextR_len r
  · exact Nat.le_refl _
theorem takeR_len (r : Rst) (bound : Nat) : (takeR r bound).2.rest.length ≤ r.rest.length := by
  unfold takeR
  split <;> exact widR_len _
/-- If a byte was missing, none is left. -/
def Sho (r : Rst) : Prop := r.short = true → r.rest = []
theorem nextR_sho {r : Rst} (h : Sho r) : Sho (nextR r) := by
  unfold nextR Sho
  split
  · exact fun _ => rfl
  · rename_i x t he
    intro hs
    have := h hs
    rw [he] at this
    cases this
theorem widR_sho {r : Rst} (h : Sho r) : Sho (widR r) := by
  unfold widR
  split
  · exact nextR_sho h
  · exact h
theorem takeR_sho {r : Rst} (bound : Nat) (h : Sho r) : Sho (takeR r bound).2 := by
  unfold takeR
  split <;> exact widR_sho h
/-- Bits of no chance; bits of the chance at a place; bits of a tree. -/
def evenR (r : Rst) (n : Nat) : Nat → Nat × Rst
  | 0 => (n, r)
  | k + 1 => evenR (takeR r (r.width / 2)).2 (2 * n + (takeR r (r.width / 2)).1.toNat) k
def bitR (r : Rst) (L : List Nat) (p : Nat) : Bool × Rst × List Nat := ((takeR r (r.width / 2048 * L.getD p 0)).1, (takeR r (r.width / 2048 * L.getD p 0)).2, L.set p (saw (L.getD p 0) (takeR r (r.width / 2048 * L.getD p 0)).1))
def treeR (r : Rst) (L : List Nat) : Nat → Nat → Nat × Rst × List Nat
  | 0, p => (p, r, L)
  | k + 1, p => treeR (bitR r L p).2.1 (bitR r L p).2.2 k (2 * p + (bitR r L p).1.toNat)
theorem evenB_ok {r : Rst} (h : Okr r) : 65536 ≤ r.width / 2 ∧ r.width / 2 + 65536 ≤ r.width := by
  have := h.wide
  omega
theorem boundR_ok {r : Rst} {c : Nat} (h : Okr r) (hc : Okn c) : 65536 ≤ r.width / 2048 * c ∧ r.width / 2048 * c + 65536 ≤ r.width := by
  have h2 := h.wide
  obtain ⟨c1, c2⟩ := hc
  have e1 : r.width / 2048 * 31 ≤ r.width / 2048 * c := Nat.mul_le_mul_left _ c1
  have e2 : r.width / 2048 * c ≤ r.width / 2048 * 2017 := Nat.mul_le_mul_left _ c2
  constructor <;> omega
theorem bitR_ok {r : Rst} {L : List Nat} {p : Nat} (h : Okr r) (hl : Okl L) (hp : p < L.length) : Okr (bitR r L p).2.1 ∧ Okl (bitR r L p).2.2 ∧ (bitR r L p).2.2.length = L.length :=
  ⟨takeR_ok h (boundR_ok h (hl.at_ hp)).1 (boundR_ok h (hl.at_ hp)).2, hl.set (saw_ok (hl.at_ hp) _), by simp [bitR]⟩
/-- A reader at the beginning. -/
def openN : Nat → List UInt8 → Rst
  | 0, b => ⟨b, 0, 4294967295, false⟩
  | k + 1, b => nextR (openN k b)
theorem openN_ok : ∀ (k : Nat) (b : List UInt8), (openN k b).num < 256 ^ k ∧ (openN k b).width = 4294967295 ∧ Sho (openN k b) ∧ (openN k b).rest.length ≤ b.length
  | 0, b => ⟨by show (0 : Nat) < 1; decide, rfl, (fun h => by cases h), Nat.le_refl _⟩
  | k + 1, b => by
    obtain ⟨h1, h2, h3, h4⟩ := openN_ok k b
    refine ⟨?_, ?_, nextR_sho h3, Nat.le_trans (nextR_len _) h4⟩
    · show (nextR (openN k b)).num < _
      rw [Nat.pow_succ]
      unfold nextR
      split
      · show _ * 256 < _; omega
      · rename_i x t _
        have := UInt8.toNat_lt x
        show _ * 256 + x.toNat < _
        omega
    · show (nextR (openN k b)).width = _
      unfold nextR
      split <;> exact h2
end Go.Proofs.Ytibofgokdjbomaa

/-
  coder's Reader over this program: opened, next, widen, take.
-/
namespace Go.Proofs.Ytibofgokdjbomaa
set_option maxRecDepth 1000000
open Go.RowKit

/-- Block g is a reader that keeps r; what it reads lies in row vb. -/
def Rs (w : World) (g : Nat) (vb : Option Nat) (r : Rst) : Prop :=
  ∃ v, Row w g 122 [v, .int .u32 (r.num : Int), .int .u32 (r.width : Int), .bool r.short] ∧ Rd w v (bytesV r.rest) ∧ (∀ b, v.ownBlock = some b → vb = some b) ∧ vb ≠ some g
theorem Rs.lt {w : World} {g : Nat} {vb : Option Nat} {r : Rst} (h : Rs w g vb r) : g < w.heap.size := by
  obtain ⟨v, hrow, _⟩ := h
  exact hrow.lt
theorem Rs.grown {w w' : World} {g : Nat} {vb : Option Nat} {r : Rst} {row : Option Nat} (h : Rs w g vb r) (hg : w.grownBy w' row) (h1 : some g ≠ row) (h2 : ∀ b, vb = some b → some b ≠ row) : Rs w' g vb r := by
  obtain ⟨v, hrow, hrd, hvb, hne⟩ := h
  exact ⟨v, hrow.grown hg h1, hrd.grown hg (fun b hb => h2 b (hvb b hb)), hvb, hne⟩
theorem Rs.grown0 {w w' : World} {g : Nat} {vb : Option Nat} {r : Rst} (h : Rs w g vb r) (hg : w.grownBy w' none) : Rs w' g vb r := h.grown hg (by simp) (by simp)

set_option maxHeartbeats 400000 in
theorem opened_nil (w : World) : Calls Try.prog 81 #[.pointer none] w (SameW (.bool false) w) := by
  go_enter Try.func81, Try.ntmps81
  go_wp2
  go_ret
  exact ⟨rfl, rfl⟩
set_option maxHeartbeats 400000 in
theorem opened_at (g : Nat) (vb : Option Nat) (r : Rst) (w : World) (h : Rs w g vb r) (hw : 0 < r.width) : Calls Try.prog 81 #[.pointer (some ⟨g, 0, none⟩)] w (SameW (.bool true) w) := by
  obtain ⟨v, hrow, _⟩ := h
  have r2 := hrow.cell (j := 2) rfl
  have hd : decide (0 < (r.width : Int)) = true := by simp; omega
  have hd' : decide (0 < r.width) = true := by simp; omega
  clear hrow
  generalize r.width = m at *
  go_enter Try.func81, Try.ntmps81
  go_wp2
  go_ret
  exact ⟨rfl, rfl⟩

/-- What a call of a reader leaves. -/
def ROut (g : Nat) (vb : Option Nat) (r : Rst) (w : World) (e : Ending) (w' : World) : Prop := e = .returned (.tuple #[]) ∧ Rs w' g vb r ∧ w.grownBy w' (some g)
theorem or_byte (n : Nat) (x : UInt8) (h : n < 16777216) : bits .or .u32 ((n : Int) * 256) (x.toNat : Int) = ((n * 256 + x.toNat : Nat) : Int) := by
  have hx := UInt8.toNat_lt x
  show IntKind.u32.wrap ((BitVec.ofInt 32 ((n : Int) * 256) ||| BitVec.ofInt 32 (x.toNat : Int)).toNat : Int) = _
  rw [BitVec.toNat_or, show (BitVec.ofInt 32 ((n : Int) * 256)).toNat = 2 ^ 8 * n by rw [BitVec.toNat_ofInt]; omega, show (BitVec.ofInt 32 (x.toNat : Int)).toNat = x.toNat by rw [BitVec.toNat_ofInt]; omega, ← Nat.two_pow_add_eq_or_of_lt (by omega : x.toNat < 2 ^ 8) n, IntKind.wrap_u32]
  omega

theorem rs_store (g : Nat) (vb : Option Nat) (u : Value) (rest : List UInt8) (m width : Nat) (short : Bool) (W : World) (v a : Value) (x y : Value) (hr : Row W g 122 [v, a, x, y]) (hx : x = .int .u32 (width : Int)) (hy : y = .bool short)
    (hd : Rd W u (bytesV rest)) (hu : ∀ b, u.ownBlock = some b → vb = some b) (hne : vb ≠ some g) :
    Rs ((W.setCell ⟨g, 1, none⟩ (.int .u32 (m : Int))).setCell ⟨g, 0, none⟩ u) g vb ⟨rest, m, width, short⟩ ∧ W.grownBy ((W.setCell ⟨g, 1, none⟩ (.int .u32 (m : Int))).setCell ⟨g, 0, none⟩ u) (some g) := by
  subst hx hy
  have hg := grown_trans2 (grown_set W g 1 (.int .u32 (m : Int))) (grown_set _ g 0 u)
  exact ⟨⟨u, (hr.set 1 _).set 0 u, hd.grown hg (fun b hb => by rw [← hu b hb]; exact hne), hu, hne⟩, hg⟩
set_option maxHeartbeats 4000000 in
theorem next_at (g : Nat) (vb : Option Nat) (r : Rst) (w : World) (h : Rs w g vb r) (hn : r.num < 16777216) :
    Calls Try.prog 72 #[.pointer (some ⟨g, 0, none⟩)] w (ROut g vb (nextR r) w) := by
  obtain ⟨v, hrow, hrd, hvb, hne⟩ := h
  obtain ⟨rest, num, width, short⟩ := r
  simp only at hrow hrd hn
  obtain ⟨A, c, rfl⟩ := hrd.form
  rw [bytesV_len] at *
  have r1 := hrow.cell (j := 1) rfl
  have f1 := hrow.frozen 1
  have hn2 : (num : Int) * 256 % 4294967296 = (num : Int) * 256 := by omega
  have R1 := hrow.set 1 (.int .u32 ((num : Int) * 256))
  have G1 := grown_set w g 1 (.int .u32 ((num : Int) * 256))
  have D1 := hrd.grown G1 (fun b hb => by rw [← hvb b hb]; exact hne)
  obtain ⟨W1, hW1⟩ : ∃ W, w.setCell ⟨g, 1, none⟩ (.int .u32 ((num : Int) * 256)) = W := ⟨_, rfl⟩
  rw [hW1] at R1 G1 D1
  have R1 : Row W1 g _ [_, .int .u32 ((num : Int) * 256), .int .u32 (width : Int), .bool short] := R1
  have c0 := R1.cell (j := 0) rfl
  have c1 := R1.cell (j := 1) rfl
  have HN := Lib.hid hn
  have HR1 := Lib.hid R1
  have HG1 := Lib.hid G1
  have HD1 := Lib.hid D1
  have HV := Lib.hid (And.intro hvb hne)
  clear hrow hrd hvb hne R1 G1 D1
  cases rest with
  | nil =>
    have G2 := grown_set W1 g 3 (.bool true)
    have R2 := HR1.out.set 3 (.bool true)
    have k3 := HR1.out.frozen 3
    have c3 := HR1.out.cell (j := 3) rfl
    have HE := Lib.hid (And.intro R2 (And.intro (grown_trans2 HG1.out G2) (HD1.out.grown G2 (fun b hb => by rw [← HV.out.1 b hb]; exact HV.out.2))))
    clear G2 R2
    go_enter Try.func72, Try.ntmps72
    go_wp2
    refine bodyPost_ret (results_none rfl _ _ _) rfl ?_
    obtain ⟨h1, h2, h3⟩ := HE.out
    exact ⟨rfl, ⟨_, by rw [← show (((num * 256 : Nat) : Int)) = (num : Int) * 256 by omega] at h1; exact h1, h3, HV.out.1, HV.out.2⟩, h2⟩
  | cons x t =>
    obtain ⟨_, hlc, hcm⟩ := HD1.out.len
    obtain ⟨ad, rfl, hc⟩ := HD1.out.cells (by simp [bytesV])
    have cx := hc 0 (byteV x) rfl
    rw [show ad.add 0 = ad by unfold Addr.add; simp] at cx
    unfold byteV at cx
    have cx : W1.drew.cell? ad = some (.int .u8 (x.toNat : Int)) := cx
    have hor := or_byte num x hn
    have hx := UInt8.toNat_lt x
    have d0 : W1.drew.cell? ⟨g, 0, none⟩ = _ := c0
    have d1 : W1.drew.cell? ⟨g, 1, none⟩ = _ := c1
    have fd0 : W1.drew.frozen? ⟨g, 0, none⟩ = false := HR1.out.frozen 0
    have fd1 : W1.drew.frozen? ⟨g, 1, none⟩ = false := HR1.out.frozen 1
    obtain ⟨m, hm⟩ : ∃ m, m = num * 256 + x.toNat := ⟨_, rfl⟩
    have HMM := Lib.hid hm
    rw [← hm] at hor
    have hw32 : IntKind.u32.wrap (x.toNat : Int) = (x.toNat : Int) := by rw [IntKind.wrap_u32]; omega
    obtain ⟨xn, hxn⟩ : ∃ xn, xn = x.toNat := ⟨_, rfl⟩
    have HX := Lib.hid hxn
    rw [← hxn] at cx hor hx hm HMM hw32
    clear hxn
    obtain ⟨n, hn1⟩ : ∃ n, n = t.length := ⟨_, rfl⟩
    have hln : (x :: t).length = n + 1 := by rw [hn1]; rfl
    have HLN := Lib.hid (And.intro hn1 hln)
    rw [hln] at *
    clear hm hln hc hn1
    go_enter Try.func72, Try.ntmps72
    go_wp2
    refine wp_region_still_tail 14 (by kernel_rfl) (by kernel_rfl) ?_
    change wpStill _ _ W1.drew (fun a' => wpList _ _ _ _ a' W1.drew) _ _
    generalize hW4 : W1.drew = W4 at *
    simp only [List.take_succ_cons, List.take_zero, List.drop_succ_cons, List.drop_zero]
    repeat still_step
    refine wpStill_nil ?_
    go_wp2
    all_goals refine bodyPost_end (results_none rfl _ _ _) rfl ?_
    · subst h
      have ht : t = [] := List.length_eq_zero_iff.1 (by have h2 : (x :: t).length = t.length + 1 := rfl; omega)
      subst ht
      have h4 := rs_store g vb (.slice (some ad) 0 0) [] m width short W4 _ _ _ _ (by rw [← hW4]; exact HR1.out) rfl rfl (Rd.empty _ _ _ (Nat.zero_le _)) (fun b hb => HV.out.1 b hb) HV.out.2
      refine ⟨rfl, ?_, ?_⟩
      · have := h4.1
        rw [HMM.out, HX.out] at this ⊢
        exact this
      · refine grown_trans2 HG1.out ?_
        have := h4.2
        rw [← hW4] at this ⊢
        exact ⟨this.os, this.tape, this.output, this.size, this.block⟩
    · have hdr := HD1.out.drop (n := 1) (by simp)
      rw [show Option.map (fun a => a.add 1) (some ad) = some ⟨ad.block, ad.off + 1, none⟩ by rw [Option.map_some, Addr.add]; simp] at hdr
      have hdr : Rd W4 (.slice (some ⟨ad.block, ad.off + 1, none⟩) t.length (c - 1)) (bytesV t) := by rw [← hW4]; exact hdr
      have h4 := rs_store g vb (.slice (some ⟨ad.block, ad.off + 1, none⟩) t.length (c - 1)) t m width short W4 _ _ _ _ (by rw [← hW4]; exact HR1.out) rfl rfl hdr (fun b hb => HV.out.1 b hb) HV.out.2
      refine ⟨rfl, ?_, ?_⟩
      · have := h4.1
        rw [HMM.out, HX.out] at this ⊢
        exact this
      · refine grown_trans2 HG1.out ?_
        have := h4.2
        rw [← hW4] at this ⊢
        exact ⟨this.os, this.tape, this.output, this.size, this.block⟩

section
variable {o : Oper} {a : Act} {w : World}
theorem st_fieldR1 {x : Operand} {g : Nat} (h : o.op = .fieldAddr 122 x 1) (hx : Is (.pointer (some ⟨g, 0, none⟩)) (a.eval x) w) : Runs (Is (.pointer (some ⟨g, 1, none⟩))) o a w := by
  have hx' : a.eval x = .pointer (some ⟨g, 0, none⟩) := hx
  refine ⟨_, ?_, rfl⟩
  simp only [execOp, h, hx']
  kernel_rfl
theorem st_fieldR2 {x : Operand} {g : Nat} (h : o.op = .fieldAddr 122 x 2) (hx : Is (.pointer (some ⟨g, 0, none⟩)) (a.eval x) w) : Runs (Is (.pointer (some ⟨g, 2, none⟩))) o a w := by
  have hx' : a.eval x = .pointer (some ⟨g, 0, none⟩) := hx
  refine ⟨_, ?_, rfl⟩
  simp only [execOp, h, hx']
  kernel_rfl
theorem st_min32 {x y : Operand} {p q r : Int} (h : o.op = .call { callee := .builtin .min, args := #[x, y], argTypes := #[100, 100] }) (hx : Is (.int .u32 p) (a.eval x) w) (hy : Is (.int .u32 q) (a.eval y) w) (e : min p q = r) : Runs (Is (.int .u32 r)) o a w := by
  subst e
  have hx' : a.eval x = .int .u32 p := hx
  have hy' : a.eval y = .int .u32 q := hy
  refine ⟨_, ?_, rfl⟩
  unfold execOp
  simp only [h, resolve, invoke, builtin, List.map_toArray, List.map_cons, List.map_nil, hx', hy']
  simp [go_sem]
  rw [Int.min_def]
  split <;> split <;> omega
end
theorem wpList_storeW {ops : Array Oper} {rest : List Oper} {o : Oper} {a : Act} {w : World} {Q : Exit → Act → World → Prop} (hgd : o.guard = none) (hdst : o.dst = none) (x y : Operand) (ho : o.op = .store 100 x y) (g i : Nat) (t : TypeId) (cs : List Value) (r : Int)
    (hv : a.eval x = .pointer (some ⟨g, i, none⟩)) (hy : a.eval y = .int .u32 r) (hr : Row w g t cs) (hi : i < cs.length) (h : wpList Try.prog ops Q rest a (w.setCell ⟨g, i, none⟩ (.int .u32 r))) : wpList Try.prog ops Q (o :: rest) a w := by
  have hf := hr.frozen i
  have hc := hr.cell (j := i) (u := cs[i]) (List.getElem?_eq_getElem hi)
  refine wpList_plain hgd fun _ hK => ?_
  have hrun : (execOp a.eval o).run Try.prog w = .ok .skip (w.setCell ⟨g, i, none⟩ (.int .u32 r)) := by
    simp only [execOp, ho, hv, hy]
    simp [go_sem, hc, hf]
  unfold Oper.wp
  rw [hrun, Oper.upon_skip]
  refine hK _ _ ?_
  rw [hdst]
  exact h

set_option maxRecDepth 1000000 in
set_option maxHeartbeats 4000000 in
theorem rwiden_at (g : Nat) (vb : Option Nat) (r : Rst) (w : World) (h : Rs w g vb r) (h0 : r.num ≤ r.width) (h1 : 65536 ≤ r.width) (h2 : r.width < 4294967296) :
    Calls Try.prog 91 #[.pointer (some ⟨g, 0, none⟩)] w (ROut g vb (widR r) w) := by
  have HW := Lib.hid h
  obtain ⟨v, hrow, hrd, hvb, hne⟩ := h
  have r2 := hrow.cell (j := 2) rfl
  have HV := Lib.hid (And.intro hvb hne)
  clear hrow hrd hvb hne
  by_cases hlt : r.width < 16777216
  · have HT := Lib.hid (next_at g vb r w HW.out (by omega))
    have HE := Lib.hid (show widR r = ⟨(nextR r).rest, min (nextR r).num (r.width * 256), r.width * 256, (nextR r).short⟩ by rw [widR, if_pos hlt])
    have HTW := Lib.hid (show (nextR r).width = r.width by unfold nextR; split <;> rfl)
    have HNN := Lib.hid (show (nextR r).num < 4294967296 by
      unfold nextR
      split
      · show r.num * 256 < _; omega
      · rename_i x t _
        have := UInt8.toNat_lt x
        show r.num * 256 + x.toNat < _
        omega)
    generalize r.width = m at *
    have HMM := Lib.hid (And.intro h1 hlt)
    have hd : decide (16777216 ≤ (m : Int)) = false := by simp; omega
    clear h0 h1 h2 hlt
    go_enter Try.func91, Try.ntmps91
    go_wp2
    refine wp_scope_jumps 0 (fun a' W => ∃ (u2 u3 u4 u5 u6 u7 u8 u9 u10 u11 u12 u13 u14 u15 u16 u17 u18 u19 u20 u21 u22 u23 u24 u25 u26 u27 : Value), a' = { tmps := #[.pointer (some ⟨g, 0, none⟩), undef, u2, u3, u4, u5, u6, u7, u8, u9, u10, u11, u12, u13, u14, u15, u16, u17, u18, u19, u20, u21, u22, u23, u24, u25, u26, u27], defers := [] } ∧ Rs W g vb (widR r) ∧ w.grownBy W (some g)) (fun _ _ => 0) rfl ?_ ?_
    · go_wp2
      go_step3
      go_wp2_with fail
      refine (HT.out).mono ?_
      rintro e w1 ⟨rfl, hrs1, hg1⟩
      have HG1 := Lib.hid hg1
      obtain ⟨v1, hrow1, hrd1, hvb1, hne1⟩ := hrs1
      rw [HTW.out] at hrow1
      have r2' := hrow1.cell (j := 2) rfl
      have f2' := hrow1.frozen 2
      have HR1 := Lib.hid hrow1
      have HD1 := Lib.hid (And.intro hrd1 hvb1)
      clear hrow1 hrd1 hvb1 hne1 hg1 r2 HT
      have hmm : m * 256 < 4294967296 := by have := HMM.out; omega
      obtain ⟨W2, hW2⟩ : ∃ W, w1.setCell ⟨g, 2, none⟩ (.int .u32 ((m : Int) * 256)) = W := ⟨_, rfl⟩
      have R2 := HR1.out.set 2 (.int .u32 ((m : Int) * 256))
      have G2 := grown_set w1 g 2 (.int .u32 ((m : Int) * 256))
      rw [hW2] at R2 G2
      have R2 : Row W2 g _ [v1, .int .u32 (((nextR r).num : Nat) : Int), .int .u32 ((m : Int) * 256), .bool (nextR r).short] := R2
      have d1 : W2.drew.cell? ⟨g, 1, none⟩ = _ := R2.cell (j := 1) rfl
      have d2 : W2.drew.cell? ⟨g, 2, none⟩ = _ := R2.cell (j := 2) rfl
      have fd1 : W2.drew.frozen? ⟨g, 1, none⟩ = false := R2.frozen 1
      have HR2 := Lib.hid R2
      have HG2 := Lib.hid G2
      clear R2 G2
      go_wp2
      refine wp_region_walk3 12 [] dis_nil (by kernel_rfl) (by kernel_rfl) (by kernel_rfl) ?_
      simp only [List.take_succ_cons, List.take_zero, List.drop_succ_cons, List.drop_zero]
      refine Walk.val (G := Is (.pointer (some ⟨g, 0, none⟩))) (stays_is _ _) rfl rfl (fun a w hm hd => ⟨wanted_plain rfl, st_move rfl (by rw [hm.outer 0 (by kernel_rfl)]; rfl)⟩) ?_
      refine Walk.val (G := Is (.pointer (some ⟨g, 0, none⟩))) (stays_is _ _) rfl rfl (fun a w hm hd => ⟨wanted_plain rfl, st_move rfl (by rw [hm.outer 0 (by kernel_rfl)]; rfl)⟩) ?_
      refine Walk.val (G := Is (.pointer (some ⟨g, 0, none⟩))) (stays_is _ _) rfl rfl (fun a w hm hd => ⟨wanted_plain rfl, st_nil rfl (hd.at_ 1 rfl rfl rfl rfl)⟩) ?_
      refine Walk.val (G := Is (.pointer (some ⟨g, 1, none⟩))) (stays_is _ _) rfl rfl (fun a w hm hd => ⟨wanted_plain rfl, st_fieldR1 rfl (hd.at_ 2 rfl rfl rfl rfl)⟩) ?_
      refine Walk.val (G := Is (.int .u32 (((nextR r).num : Nat) : Int))) (stays_is _ _) rfl rfl (fun a w hm hd => ⟨wanted_plain rfl, st_cell rfl (fun _ => by kernel_rfl) (hd.at_ 3 rfl rfl rfl rfl) ((HR2.out.grown0 (GrownX.none2 hm.grow)).cell (j := 1) rfl)⟩) ?_
      refine Walk.val (G := Is (.pointer (some ⟨g, 0, none⟩))) (stays_is _ _) rfl rfl (fun a w hm hd => ⟨wanted_plain rfl, st_move rfl (by rw [hm.outer 0 (by kernel_rfl)]; rfl)⟩) ?_
      refine Walk.val (G := Is (.pointer (some ⟨g, 0, none⟩))) (stays_is _ _) rfl rfl (fun a w hm hd => ⟨wanted_plain rfl, st_nil rfl (hd.at_ 5 rfl rfl rfl rfl)⟩) ?_
      refine Walk.val (G := Is (.pointer (some ⟨g, 2, none⟩))) (stays_is _ _) rfl rfl (fun a w hm hd => ⟨wanted_plain rfl, st_fieldR2 rfl (hd.at_ 6 rfl rfl rfl rfl)⟩) ?_
      refine Walk.val (G := Is (.int .u32 ((m : Int) * 256))) (stays_is _ _) rfl rfl (fun a w hm hd => ⟨wanted_plain rfl, st_cell rfl (fun _ => by kernel_rfl) (hd.at_ 7 rfl rfl rfl rfl) ((HR2.out.grown0 (GrownX.none2 hm.grow)).cell (j := 2) rfl)⟩) ?_
      refine Walk.val (G := Is (.int .u32 ((min (nextR r).num (m * 256) : Nat) : Int))) (stays_is _ _) rfl rfl (fun a w hm hd => ⟨wanted_plain rfl, st_min32 rfl (hd.at_ 4 rfl rfl rfl rfl) (hd.at_ 8 rfl rfl rfl rfl) (by omega)⟩) ?_
      refine Walk.val (G := Is (.pointer (some ⟨g, 0, none⟩))) (stays_is _ _) rfl rfl (fun a w hm hd => ⟨wanted_plain rfl, st_nil rfl (hd.at_ 0 rfl rfl rfl rfl)⟩) ?_
      refine Walk.val (G := Is (.pointer (some ⟨g, 1, none⟩))) (stays_is _ _) rfl rfl (fun a w hm hd => ⟨wanted_plain rfl, st_fieldR1 rfl (hd.at_ 10 rfl rfl rfl rfl)⟩) ?_
      intro a9 V9 hm9 hall
      have f16 : Is (.pointer (some ⟨g, 0, none⟩)) (a9.eval (.tmp 16)) V9 := hall 0 _ _ rfl rfl
      have f17 : Is (.pointer (some ⟨g, 0, none⟩)) (a9.eval (.tmp 17)) V9 := hall 1 _ _ rfl rfl
      have f18 : Is (.pointer (some ⟨g, 0, none⟩)) (a9.eval (.tmp 18)) V9 := hall 2 _ _ rfl rfl
      have f19 : Is (.pointer (some ⟨g, 1, none⟩)) (a9.eval (.tmp 19)) V9 := hall 3 _ _ rfl rfl
      have f20 : Is (.int .u32 (((nextR r).num : Nat) : Int)) (a9.eval (.tmp 20)) V9 := hall 4 _ _ rfl rfl
      have f21 : Is (.pointer (some ⟨g, 0, none⟩)) (a9.eval (.tmp 21)) V9 := hall 5 _ _ rfl rfl
      have f22 : Is (.pointer (some ⟨g, 0, none⟩)) (a9.eval (.tmp 22)) V9 := hall 6 _ _ rfl rfl
      have f23 : Is (.pointer (some ⟨g, 2, none⟩)) (a9.eval (.tmp 23)) V9 := hall 7 _ _ rfl rfl
      have f24 : Is (.int .u32 ((m : Int) * 256)) (a9.eval (.tmp 24)) V9 := hall 8 _ _ rfl rfl
      have f25 : Is (.int .u32 ((min (nextR r).num (m * 256) : Nat) : Int)) (a9.eval (.tmp 25)) V9 := hall 9 _ _ rfl rfl
      have f26 : Is (.pointer (some ⟨g, 0, none⟩)) (a9.eval (.tmp 26)) V9 := hall 10 _ _ rfl rfl
      have f27 : Is (.pointer (some ⟨g, 1, none⟩)) (a9.eval (.tmp 27)) V9 := hall 11 _ _ rfl rfl
      have hfr := hm9.frame
      simp only [List.take_succ_cons, List.take_zero, List.filterMap_cons, List.filterMap_nil, List.foldl_cons, List.foldl_nil] at hfr
      have hgV9 := GrownX.none2 hm9.grow
      have f16 : a9.eval (.tmp 16) = _ := f16
      rw [f16] at hfr
      have f17 : a9.eval (.tmp 17) = _ := f17
      rw [f17] at hfr
      have f18 : a9.eval (.tmp 18) = _ := f18
      rw [f18] at hfr
      have f19 : a9.eval (.tmp 19) = _ := f19
      rw [f19] at hfr
      have f20 : a9.eval (.tmp 20) = _ := f20
      rw [f20] at hfr
      have f21 : a9.eval (.tmp 21) = _ := f21
      rw [f21] at hfr
      have f22 : a9.eval (.tmp 22) = _ := f22
      rw [f22] at hfr
      have f23 : a9.eval (.tmp 23) = _ := f23
      rw [f23] at hfr
      have f24 : a9.eval (.tmp 24) = _ := f24
      rw [f24] at hfr
      have f25 : a9.eval (.tmp 25) = _ := f25
      rw [f25] at hfr
      have f26 : a9.eval (.tmp 26) = _ := f26
      rw [f26] at hfr
      have f27 : a9.eval (.tmp 27) = _ := f27
      rw [f27] at hfr
      clear hall hm9
      have R9 := HR2.out.grown0 hgV9
      have hgW := grown_trans2 (grown_none hgV9 (some g)) (grown_set V9 g 1 (.int .u32 ((min (nextR r).num (m * 256) : Nat) : Int)))
      refine wpList_storeW rfl rfl _ _ rfl g 1 _ _ _ f27 f25 R9 (by simp) ?_
      have R3 := R9.set 1 (.int .u32 ((min (nextR r).num (m * 256) : Nat) : Int))
      have HD3 := Lib.hid (HD1.out.1.grown (grown_trans2 HG2.out hgW) (fun b hb => by rw [← HD1.out.2 b hb]; exact HV.out.2))
      have HG3 := Lib.hid (grown_trans2 HG1.out (grown_trans2 HG2.out hgW))
      generalize V9.setCell ⟨g, 1, none⟩ (.int .u32 ((min (nextR r).num (m * 256) : Nat) : Int)) = W3 at *
      have HR3 := Lib.hid R3
      clear R3 R9 hgW hgV9
      clear f16
      clear f17
      clear f18
      clear f19
      clear f20
      clear f21
      clear f22
      clear f23
      clear f24
      clear f25
      clear f26
      clear f27
      unfold wpList
      rw [hfr]
      clear hfr
      go_simp
      go_wp2
      go_step3
      refine ⟨rfl, _, _, _, _, _, _, _, _, _, _, _, _, _, _, _, _, _, _, _, _, _, _, _, _, _, _, rfl, ?_, HG3.out⟩
      rw [HE.out]
      refine ⟨v1, ?_, HD3.out, HD1.out.2, HV.out.2⟩
      have := HR3.out
      rw [show ((m : Int) * 256) = ((m * 256 : Nat) : Int) by omega] at this
      exact this
    · rintro a' W ⟨u2, u3, u4, u5, u6, u7, u8, u9, u10, u11, u12, u13, u14, u15, u16, u17, u18, u19, u20, u21, u22, u23, u24, u25, u26, u27, rfl, ht1, hn1⟩
      have HE1 := Lib.hid (And.intro ht1 hn1)
      obtain ⟨v1, hrow1, _⟩ := ht1
      rw [HE.out] at hrow1
      have hrow1 : Row W g _ [v1, _, .int .u32 ((m * 256 : Nat) : Int), _] := hrow1
      have r2' := hrow1.cell (j := 2) rfl
      have hd2 : decide (16777216 ≤ ((m * 256 : Nat) : Int)) = true := by have := HMM.out; simp; omega
      generalize m * 256 = m' at r2' hd2
      clear hrow1 r2 hn1 hd HT
      go_wp2
      simp only [Exit.jump]
      refine bodyPost_ret (results_none rfl _ _ _) rfl ?_
      exact ⟨rfl, HE1.out.1, HE1.out.2⟩
  · have HE := Lib.hid (show widR r = r by rw [widR, if_neg hlt])
    generalize r.width = m at *
    have hd : decide (16777216 ≤ (m : Int)) = true := by simp; omega
    clear h0 h1 h2 hlt
    go_enter Try.func91, Try.ntmps91
    go_wp2
    go_step3
    go_wp2
    go_step3
    go_wp2
    rw [Exit.noGoto_ret]
    refine bodyPost_ret (results_none rfl _ _ _) rfl ?_
    exact ⟨rfl, by rw [HE.out]; exact HW.out, grown_refl _ _⟩
end Go.Proofs.Ytibofgokdjbomaa

/-
  coder's Reader over this program: take, Err, Left, Open.
-/
namespace Go.Proofs.Ytibofgokdjbomaa
set_option maxRecDepth 1000000
open Go.RowKit

/-- What taking a bit answers. -/
def TOut (g : Nat) (vb : Option Nat) (p : Bool × Rst) (w : World) (e : Ending) (w' : World) : Prop := e = .returned (.int .i64 (p.1.toNat : Int)) ∧ Rs w' g vb p.2 ∧ w.grownBy w' (some g)
theorem Rs.set {w W : World} {g : Nat} {vb : Option Nat} {r : Rst} (h : Rs w g vb r) (num width : Nat) (v x y z : Value) (hv : Row w g 122 [v, x, y, z]) (hr : Row W g 122 [v, .int .u32 (num : Int), .int .u32 (width : Int), z]) (hg : w.grownBy W (some g)) :
    Rs W g vb ⟨r.rest, num, width, r.short⟩ := by
  obtain ⟨v1, hrow, hrd, hvb, hne⟩ := h
  have e : v1 = v := by
    have h1 := hrow.cell (j := 0) rfl
    have h2 := hv.cell (j := 0) rfl
    rw [h1] at h2
    exact Option.some.inj h2
  have e3 : Value.bool r.short = z := by
    have h1 := hrow.cell (j := 3) rfl
    have h2 := hv.cell (j := 3) rfl
    rw [h1] at h2
    exact Option.some.inj h2
  subst e e3
  exact ⟨v1, hr, hrd.grown hg (fun b hb => by rw [← hvb b hb]; exact hne), hvb, hne⟩
set_option maxHeartbeats 4000000 in
theorem take_at (g : Nat) (vb : Option Nat) (r : Rst) (bound : Nat) (w : World) (h : Rs w g vb r) (hs : Okr r) (h1 : 65536 ≤ bound) (h2 : bound + 65536 ≤ r.width) :
    Calls Try.prog 82 #[.pointer (some ⟨g, 0, none⟩), .int .u32 (bound : Int)] w (TOut g vb (takeR r bound) w) := by
  have HW := Lib.hid h
  have HS := Lib.hid hs
  obtain ⟨v, hrow, _⟩ := h
  have r1 := hrow.cell (j := 1) rfl
  have r2 := hrow.cell (j := 2) rfl
  have f1 := hrow.frozen 1
  have f2 := hrow.frozen 2
  have HR := Lib.hid hrow
  have hm := hs.most
  have hnw := hs.num
  clear hrow hs
  by_cases hlt : r.num < bound
  · have hd : decide ((r.num : Int) < (bound : Int)) = true := by simp; omega
    have hd' : decide (r.num < bound) = true := by simp; omega
    have HE := Lib.hid (show takeR r bound = (false, widR ⟨r.rest, r.num, bound, r.short⟩) by rw [takeR, if_pos hlt])
    rw [HE.out]
    have G1 := grown_set w g 2 (.int .u32 (bound : Int))
    have T1 := HW.out.set r.num bound _ _ _ _ HR.out (HR.out.set 2 (.int .u32 (bound : Int))) G1
    have HT := Lib.hid (rwiden_at g vb _ _ T1 (by show r.num ≤ bound; omega) h1 (by show bound < _; omega))
    have HG := Lib.hid G1
    clear G1 T1 h1 h2 hm hnw hlt
    go_enter Try.func82, Try.ntmps82
    go_wp2_with fail
    refine HT.out.mono ?_
    rintro e w2 ⟨rfl, h3, h4⟩
    have H2 := Lib.hid (And.intro h3 (grown_trans2 HG.out h4))
    clear h3 h4
    go_wp2
    go_ret
    exact ⟨rfl, H2.out.1, H2.out.2⟩
  · have hd : decide ((r.num : Int) < (bound : Int)) = false := by simp; omega
    have hd' : decide (r.num < bound) = false := by simp; omega
    have HE := Lib.hid (show takeR r bound = (true, widR ⟨r.rest, r.num - bound, r.width - bound, r.short⟩) by rw [takeR, if_neg hlt])
    rw [HE.out]
    obtain ⟨L, hL⟩ : ∃ L, L = r.num - bound := ⟨_, rfl⟩
    obtain ⟨M, hM⟩ : ∃ M, M = r.width - bound := ⟨_, rfl⟩
    have eL : (r.num : Int) - (bound : Int) = (L : Int) := by omega
    have eM : (r.width : Int) - (bound : Int) = (M : Int) := by omega
    have eL2 : (L : Int) % 4294967296 = (L : Int) := by omega
    have eM2 : (M : Int) % 4294967296 = (M : Int) := by omega
    have hLM : L ≤ M ∧ 65536 ≤ M ∧ M < 4294967296 := by omega
    rw [← hL, ← hM]
    have G1 := grown_trans2 (grown_set w g 2 (.int .u32 (M : Int))) (grown_set _ g 1 (.int .u32 (L : Int)))
    have R1 := (HR.out.set 2 (.int .u32 (M : Int))).set 1 (.int .u32 (L : Int))
    have T1 := HW.out.set L M _ _ _ _ HR.out R1 G1
    have HT := Lib.hid (rwiden_at g vb _ _ T1 hLM.1 hLM.2.1 hLM.2.2)
    have HG := Lib.hid G1
    clear G1 R1 T1 h1 h2 hm hnw hlt hL hM hLM
    go_enter Try.func82, Try.ntmps82
    go_wp2_with fail
    refine HT.out.mono ?_
    rintro e w2 ⟨rfl, h3, h4⟩
    have H2 := Lib.hid (And.intro h3 (grown_trans2 HG.out h4))
    clear h3 h4
    go_wp2
    go_ret
    exact ⟨rfl, H2.out.1, H2.out.2⟩

set_option maxHeartbeats 400000 in
theorem err_nil (w : World) : Calls Try.prog 53 #[.pointer none] w (SameW (.int .i64 2) w) := by
  have HO := Lib.hid (opened_nil w)
  go_enter Try.func53, Try.ntmps53
  go_wp2_with fail
  refine HO.out.mono ?_
  rintro e w1 ⟨rfl, hw1⟩
  obtain rfl := hw1.symm
  go_wp2
  go_ret
  exact ⟨rfl, rfl⟩
set_option maxHeartbeats 400000 in
theorem err_at (g : Nat) (vb : Option Nat) (r : Rst) (w : World) (h : Rs w g vb r) (hw : 0 < r.width) : Calls Try.prog 53 #[.pointer (some ⟨g, 0, none⟩)] w (SameW (.int .i64 (if r.short then 2 else 0)) w) := by
  have HO := Lib.hid (opened_at g vb r w h hw)
  obtain ⟨v, hrow, _⟩ := h
  have r3 := hrow.cell (j := 3) rfl
  clear hrow hw
  cases hs : r.short with
  | true =>
    rw [hs] at r3
    clear hs
    go_enter Try.func53, Try.ntmps53
    go_wp2_with fail
    refine HO.out.mono ?_
    rintro e w1 ⟨rfl, hw1⟩
    obtain rfl := hw1.symm
    go_wp2
    go_ret
    exact ⟨rfl, rfl⟩
  | false =>
    rw [hs] at r3
    clear hs
    go_enter Try.func53, Try.ntmps53
    go_wp2_with fail
    refine HO.out.mono ?_
    rintro e w1 ⟨rfl, hw1⟩
    obtain rfl := hw1.symm
    go_wp2
    go_ret
    exact ⟨rfl, rfl⟩
set_option maxHeartbeats 400000 in
theorem left_nil (w : World) : Calls Try.prog 54 #[.pointer none] w (SameW (.int .i64 0) w) := by
  go_enter Try.func54, Try.ntmps54
  go_wp2
  go_ret
  exact ⟨rfl, rfl⟩
set_option maxHeartbeats 400000 in
theorem left_at (g : Nat) (vb : Option Nat) (r : Rst) (w : World) (h : Rs w g vb r) : Calls Try.prog 54 #[.pointer (some ⟨g, 0, none⟩)] w (SameW (.int .i64 (r.rest.length : Int)) w) := by
  obtain ⟨v, hrow, hrd, _⟩ := h
  obtain ⟨A, c, rfl⟩ := hrd.form
  have r0 := hrow.cell (j := 0) rfl
  rw [bytesV_len] at r0
  clear hrow hrd
  generalize r.rest.length = n at *
  go_enter Try.func54, Try.ntmps54
  go_wp2
  go_ret
  exact ⟨rfl, rfl⟩

/-- What Open answers. -/
def OpOut (w : World) (b : List UInt8) (e : Ending) (w' : World) : Prop := ∃ g vb, e = .returned (.pointer (some ⟨g, 0, none⟩)) ∧ Rs w' g vb (openN 4 b) ∧ w.heap.size ≤ g ∧ (∀ k, vb = some k → w.heap.size ≤ k ∧ k < w'.heap.size) ∧ w.grownBy w' none
set_option maxHeartbeats 4000000 in
theorem open_any (v : Value) (b : List UInt8) (w : World) (hv : Rd w v (bytesV b)) (hl : b.length ≤ 1000000000) : Calls Try.prog 41 #[v] w (OpOut w b) := by
  have HC := Lib.hid (clone_bytes v b w hv hl)
  obtain ⟨A, c, rfl⟩ := hv.form
  clear hv hl
  go_enter Try.func41, Try.ntmps41
  go_wp2_with fail
  refine HC.out.mono ?_
  rintro e w1 ⟨u, rfl, ho, hg⟩
  obtain ⟨A1, c1, rfl⟩ := own_form ho
  have HO := Lib.hid (And.intro ho hg)
  obtain ⟨G, hG⟩ : ∃ G, G = w1.heap.size := ⟨_, rfl⟩
  obtain ⟨W2, hW2⟩ : ∃ W, w1.alloc (.cells #[.slice A1 b.length c1, .int .u32 0, .int .u32 4294967295, .bool false] 122) = W := ⟨_, rfl⟩
  have hlt : ∀ k, (Value.slice A1 b.length c1).ownBlock = some k → w.heap.size ≤ k ∧ k < w1.heap.size := fun k hk => ho.lt k hk
  have RS := Lib.hid (show Rs W2 G (Value.slice A1 b.length c1).ownBlock (openN 0 b) by
    rw [← hW2]
    exact ⟨_, Row.newAt w1 _ [.slice A1 b.length c1, .int .u32 0, .int .u32 4294967295, .bool false] hG.symm, (Rd.of_own ho).alloc _, fun k hk => hk, fun e => by have := (hlt _ e).2; omega⟩)
  have GW := Lib.hid (show w.grownBy W2 none by rw [← hW2]; exact grown_alloc hg _)
  have HLT := Lib.hid (show ∀ k, (Value.slice A1 b.length c1).ownBlock = some k → w.heap.size ≤ k ∧ k < G from fun k hk => by rw [hG]; exact hlt k hk)
  have HGG := Lib.hid (show w.heap.size ≤ G by rw [hG]; exact hg.size)
  clear ho hg hlt HC
  go_wp2
  rw [← hG]
  clear hG hW2
  go_loopw [8] (fun i W => ∃ k : Nat, k ≤ 4 ∧ i = .int .i64 k ∧ Rs W G (Value.slice A1 b.length c1).ownBlock (openN k b) ∧ w.grownBy W none) (fun i _ => 4 - (intOf i).toNat)
  case atStart => exact ⟨0, Nat.zero_le _, rfl, RS.out, GW.out⟩
  case round =>
    obtain ⟨k, hk, rfl, hrs, hgr⟩ := hrel
    by_cases hlt : k < 4
    · have hd : decide ((k : Int) < 4) = true := by simp; omega
      have HN := Lib.hid (next_at G _ (openN k b) wr hrs (by
        have h1 := (openN_ok k b).1
        have h2 : (256 : Nat) ^ k ≤ 256 ^ 3 := Nat.pow_le_pow_right (by decide) (by omega)
        omega))
      have HGR := Lib.hid hgr
      clear hrs hgr RS GW
      go_wp2_with fail
      refine HN.out.mono ?_
      rintro e w2 ⟨rfl, h1, h2⟩
      have HE := Lib.hid (And.intro h1 (grown_own HGR.out h2 HGG.out))
      clear h1 h2
      go_wp2
      go_roundw
      case rel => exact ⟨k + 1, by omega, by go_num, HE.out.1, HE.out.2⟩
      case measure => simp only [intOf]; omega
    · obtain rfl : k = 4 := by omega
      have HE := Lib.hid (And.intro hrs hgr)
      clear hrs hgr RS GW
      go_wp2
      go_ret
      exact ⟨G, _, rfl, HE.out.1, HGG.out, fun k hk => ⟨(HLT.out k hk).1, Nat.lt_trans (HLT.out k hk).2 HE.out.1.lt⟩, HE.out.2⟩
end Go.Proofs.Ytibofgokdjbomaa

/-
  coder's Reader's Bit, Even and Tree over this program.
-/
namespace Go.Proofs.Ytibofgokdjbomaa
set_option maxRecDepth 1000000
open Go.RowKit

/-- What a reader's Bit answers. -/
def RBOut (g : Nat) (vb : Option Nat) (gc : Nat) (t : TypeId) (p : Bool × Rst × List Nat) (w : World) (e : Ending) (w' : World) : Prop :=
  e = .returned (.int .i64 (p.1.toNat : Int)) ∧ Rs w' g vb p.2.1 ∧ Row w' gc t (chV p.2.2) ∧ Wn [g, gc] w none w' none
set_option maxHeartbeats 4000000 in
theorem rbit_at (g : Nat) (vb : Option Nat) (r : Rst) (gc j : Nat) (t : TypeId) (l : List Nat) (w : World) (h : Rs w g vb r) (hs : Okr r) (hr : Row w gc t (chV l)) (hj : j < l.length) (hok : Okl l) (hne : gc ≠ g ∧ vb ≠ some gc) :
    Calls Try.prog 52 #[.pointer (some ⟨g, 0, none⟩), .pointer (some ⟨gc, j, none⟩)] w (RBOut g vb gc t (bitR r l j) w) := by
  have HW := Lib.hid h
  have HR := Lib.hid hr
  have HNE := Lib.hid hne
  have HOP := Lib.hid (opened_at g vb r w h (by have := hs.wide; omega))
  obtain ⟨v, hrow, _⟩ := h
  have HROW := Lib.hid hrow
  have HC := Lib.hid (chV_at l j hj)
  have hcb := boundR_ok hs (hok.at_ hj)
  obtain ⟨k1, k2⟩ := hok.at_ hj
  have HP := Lib.hid (fun W => Val.made (bound_any (l.getD j 0) r.width (by omega) hs.most W))
  obtain ⟨bd, hbd⟩ : ∃ bd, bd = r.width / 2048 * l.getD j 0 := ⟨_, rfl⟩
  rw [← hbd] at hcb HP
  have HTK := Lib.hid (fun W (hW : Rs W g vb r) => take_at g vb r bd W hW hs hcb.1 hcb.2)
  have HBR := Lib.hid (show bitR r l j = ((takeR r bd).1, (takeR r bd).2, l.set j (saw (l.getD j 0) (takeR r bd).1)) by rw [hbd]; rfl)
  obtain ⟨z, hz⟩ : ∃ z : Int, z = ((l.getD j 0 : Nat) - 1024 : Int) := ⟨_, rfl⟩
  rw [← hz] at HC HP
  have HLN := Lib.hid (fun W (hW : Row W gc t (chV l)) => learn_at gc j t l (((takeR r bd).1.toNat : Nat) : Int) W hW hj hok)
  rw [bit_dec] at HLN
  rw [HBR.out]
  generalize takeR r bd = TR at *
  clear hs hr hj hok hne k1 k2 hbd hz hrow hcb
  go_enter Try.func52, Try.ntmps52
  go_wp2_with fail
  refine HOP.out.mono ?_
  rintro e w1 ⟨rfl, hw1⟩
  obtain rfl := hw1.symm
  go_wp2
  refine wp_region_walk3 9 [] dis_nil (by kernel_rfl) (by kernel_rfl) (by kernel_rfl) ?_
  simp only [List.take_succ_cons, List.take_zero, List.drop_succ_cons, List.drop_zero]
  refine Walk.val (G := Is (.pointer (some ⟨g, 0, none⟩))) (stays_is _ _) rfl rfl (fun a w hm hd => ⟨wanted_plain rfl, st_move rfl (by rw [hm.outer 0 (by kernel_rfl)]; rfl)⟩) ?_
  refine Walk.val (G := Is (.pointer (some ⟨gc, j, none⟩))) (stays_is _ _) rfl rfl (fun a w hm hd => ⟨wanted_plain rfl, st_move rfl (by rw [hm.outer 1 (by kernel_rfl)]; rfl)⟩) ?_
  refine Walk.val (G := Is (.pointer (some ⟨gc, j, none⟩))) (stays_is _ _) rfl rfl (fun a w hm hd => ⟨wanted_plain rfl, st_nil rfl (hd.at_ 1 rfl rfl rfl rfl)⟩) ?_
  refine Walk.val (G := Is (.agg #[.int .i16 z])) (stays_is _ _) rfl rfl (fun a w hm hd => ⟨wanted_plain rfl, ⟨_, ex_loadC rfl gc j t _ z (hd.at_ 2 rfl rfl rfl rfl) (HR.out.grown0 (GrownX.none2 hm.grow)) HC.out, rfl⟩⟩) ?_
  refine Walk.val (G := Is (.pointer (some ⟨g, 0, none⟩))) (stays_is _ _) rfl rfl (fun a w hm hd => ⟨wanted_plain rfl, st_move rfl (by rw [hm.outer 0 (by kernel_rfl)]; rfl)⟩) ?_
  refine Walk.val (G := Is (.pointer (some ⟨g, 0, none⟩))) (stays_is _ _) rfl rfl (fun a w hm hd => ⟨wanted_plain rfl, st_nil rfl (hd.at_ 4 rfl rfl rfl rfl)⟩) ?_
  refine Walk.val (G := Is (.pointer (some ⟨g, 2, none⟩))) (stays_is _ _) rfl rfl (fun a w hm hd => ⟨wanted_plain rfl, st_fieldR2 rfl (hd.at_ 5 rfl rfl rfl rfl)⟩) ?_
  refine Walk.val (G := Is (.int .u32 (r.width : Int))) (stays_is _ _) rfl rfl (fun a w hm hd => ⟨wanted_plain rfl, st_cell rfl (fun _ => by kernel_rfl) (hd.at_ 6 rfl rfl rfl rfl) ((HROW.out.grown0 (GrownX.none2 hm.grow)).cell (j := 2) rfl)⟩) ?_
  refine Walk.call (G := Is (.int .u32 (bd : Int))) (stays_is _ _) rfl 57 rfl (fun a w hm ha hd => ⟨wanted_plain rfl, _, ex_call2 Try.func57 (by kernel_rfl) (by kernel_rfl) rfl, by rw [show a.eval (.tmp 16) = _ from (hd.at_ 3 rfl rfl rfl rfl), show a.eval (.tmp 20) = _ from (hd.at_ 7 rfl rfl rfl rfl)]; exact HP.out w⟩) ?_
  intro a9 V9 hm9 hall
  have f13 : Is (.pointer (some ⟨g, 0, none⟩)) (a9.eval (.tmp 13)) V9 := hall 0 _ _ rfl rfl
  have f14 : Is (.pointer (some ⟨gc, j, none⟩)) (a9.eval (.tmp 14)) V9 := hall 1 _ _ rfl rfl
  have f15 : Is (.pointer (some ⟨gc, j, none⟩)) (a9.eval (.tmp 15)) V9 := hall 2 _ _ rfl rfl
  have f16 : Is (.agg #[.int .i16 z]) (a9.eval (.tmp 16)) V9 := hall 3 _ _ rfl rfl
  have f17 : Is (.pointer (some ⟨g, 0, none⟩)) (a9.eval (.tmp 17)) V9 := hall 4 _ _ rfl rfl
  have f18 : Is (.pointer (some ⟨g, 0, none⟩)) (a9.eval (.tmp 18)) V9 := hall 5 _ _ rfl rfl
  have f19 : Is (.pointer (some ⟨g, 2, none⟩)) (a9.eval (.tmp 19)) V9 := hall 6 _ _ rfl rfl
  have f20 : Is (.int .u32 (r.width : Int)) (a9.eval (.tmp 20)) V9 := hall 7 _ _ rfl rfl
  have f21 : Is (.int .u32 (bd : Int)) (a9.eval (.tmp 21)) V9 := hall 8 _ _ rfl rfl
  have hfr := hm9.frame
  simp only [List.take_succ_cons, List.take_zero, List.filterMap_cons, List.filterMap_nil, List.foldl_cons, List.foldl_nil] at hfr
  have hgV9 := GrownX.none2 hm9.grow
  have f13 : a9.eval (.tmp 13) = _ := f13
  rw [f13] at hfr
  have f14 : a9.eval (.tmp 14) = _ := f14
  rw [f14] at hfr
  have f15 : a9.eval (.tmp 15) = _ := f15
  rw [f15] at hfr
  have f16 : a9.eval (.tmp 16) = _ := f16
  rw [f16] at hfr
  have f17 : a9.eval (.tmp 17) = _ := f17
  rw [f17] at hfr
  have f18 : a9.eval (.tmp 18) = _ := f18
  rw [f18] at hfr
  have f19 : a9.eval (.tmp 19) = _ := f19
  rw [f19] at hfr
  have f20 : a9.eval (.tmp 20) = _ := f20
  rw [f20] at hfr
  have f21 : a9.eval (.tmp 21) = _ := f21
  rw [f21] at hfr
  clear hall hm9
  have H9 := Lib.hid (HW.out.grown0 hgV9)
  have R9 := Lib.hid (HR.out.grown0 hgV9)
  have G9 := Lib.hid hgV9
  clear hgV9
  clear f13
  clear f14
  clear f15
  clear f16
  clear f17
  clear f18
  clear f19
  clear f20
  clear f21
  unfold wpList
  rw [hfr]
  clear hfr
  go_simp
  go_wp2_with fail
  refine .inl ((HTK.out V9 H9.out).mono ?_)
  rintro e w2 ⟨rfl, ht2, hg2⟩
  have HT2 := Lib.hid ht2
  have HN2 := Lib.hid (((Wn.refl [g, gc] w none).grown0 G9.out).grown hg2 (fun b e => by cases e; exact .inl (by simp)))
  have HR2 := Lib.hid (R9.out.grown hg2 (fun e => by cases e; exact HNE.out.1 rfl))
  clear ht2 hg2
  go_wp2_with fail
  refine (HLN.out w2 HR2.out).mono ?_
  rintro e w3 ⟨rfl, hr3, hg3⟩
  have HE := Lib.hid (And.intro hr3 hg3)
  clear hr3 hg3
  go_wp2
  go_ret
  refine ⟨rfl, ?_, HE.out.1, ?_⟩
  · exact HT2.out.grown HE.out.2 (by intro e; cases e; exact HNE.out.1 rfl) (fun b hb e => by cases e; exact HNE.out.2 hb)
  · exact HN2.out.grown HE.out.2 (fun b e => by cases e; exact .inl (by simp))

/-- What a reader's Even answers. -/
def REOut (g : Nat) (vb : Option Nat) (p : Nat × Rst) (w : World) (e : Ending) (w' : World) : Prop := e = .returned (.int .i64 (p.1 : Int)) ∧ Rs w' g vb p.2 ∧ w.grownBy w' (some g)
set_option maxHeartbeats 4000000 in
theorem reven_at (g : Nat) (vb : Option Nat) (r : Rst) (B : Nat) (w : World) (h : Rs w g vb r) (hs : Okr r) (hB : B ≤ 32) :
    Calls Try.prog 75 #[.pointer (some ⟨g, 0, none⟩), .int .i64 (B : Int)] w (REOut g vb (evenR r 0 B) w) := by
  have HOP := Lib.hid (opened_at g vb r w h (by have := hs.wide; omega))
  have HIE := Lib.hid (isEven_yes B hB w)
  have HW := Lib.hid h
  have HS := Lib.hid hs
  clear h hs
  go_enter Try.func75, Try.ntmps75
  go_wp2_with fail
  refine HOP.out.mono ?_
  rintro e w1 ⟨rfl, hw1⟩
  obtain rfl := hw1.symm
  go_wp2_with fail
  refine HIE.out.mono ?_
  rintro e w1 ⟨rfl, hw1⟩
  obtain rfl := hw1.symm
  go_wp2
  go_loopw [5, 15] (fun u i W => ∃ (k n : Nat) (R : Rst), k ≤ B ∧ i = .int .i64 k ∧ u = .int .i64 n ∧ n < 2 ^ k ∧ evenR R n (B - k) = evenR r 0 B ∧ (Okr R ∧ Rs W g vb R ∧ w.grownBy W (some g))) (fun _ i _ => B - (intOf i).toNat)
  case atStart => exact ⟨0, 0, r, Nat.zero_le _, rfl, rfl, by decide, rfl, HS.out, HW.out, grown_refl _ _⟩
  case round =>
    obtain ⟨k, n, R, hk, rfl, rfl, hn, hev, hh⟩ := hrel
    have HH := Lib.hid hh
    by_cases hlt : k < B
    · have hd : decide ((k : Int) < (B : Int)) = true := by simp; omega
      have hn32 : n < 4294967296 := by
        have : (2 : Nat) ^ k ≤ 2 ^ 32 := Nat.pow_le_pow_right (by decide) (by omega)
        omega
      obtain ⟨v, hrow, _⟩ := hh.2.1
      have r2 := hrow.cell (j := 2) rfl
      have hw0 : (R.width : Int) / 2 = ((R.width / 2 : Nat) : Int) := (Int.natCast_ediv _ _).symm
      have HTK := Lib.hid (take_at g vb R (R.width / 2) wr HH.out.2.1 HH.out.1 (evenB_ok HH.out.1).1 (evenB_ok HH.out.1).2)
      have HEV := Lib.hid (show evenR (takeR R (R.width / 2)).2 (2 * n + (takeR R (R.width / 2)).1.toNat) (B - (k + 1)) = evenR r 0 B by
        rw [show B - k = B - (k + 1) + 1 by omega] at hev
        exact hev)
      have HOK2 := Lib.hid (takeR_ok HH.out.1 (evenB_ok HH.out.1).1 (evenB_ok HH.out.1).2)
      have hbm : R.width / 2 < 4294967296 := by have := HH.out.1.most; omega
      generalize R.width / 2 = bd at *
      have hbm2 : (bd : Int) % 4294967296 = (bd : Int) := by omega
      have hor := or_bit n (takeR R bd).1 (by omega)
      have hb1 := bit_le (takeR R bd).1
      have HNN := Lib.hid (show 2 * n + (takeR R bd).1.toNat < 2 ^ (k + 1) by rw [Nat.pow_succ]; omega)
      generalize takeR R bd = TR at *
      unfold TOut at HTK
      generalize TR.1.toNat = bv at *
      clear hh hev hrow hn
      go_wp2_with fail
      try rw [hw0]
      refine HTK.out.mono ?_
      rintro e w2 ⟨rfl, h1, h2⟩
      have HE := Lib.hid (And.intro h1 (grown_trans2 HH.out.2.2 h2))
      clear h1 h2 r2
      go_wp2
      go_roundw
      case rel => exact ⟨k + 1, 2 * n + bv, TR.2, by omega, by go_num, rfl, HNN.out, HEV.out, HOK2.out, HE.out.1, HE.out.2⟩
      case measure => simp only [intOf]; omega
    · obtain rfl : k = B := by omega
      have HEV := Lib.hid hev
      clear hh hev hn
      go_wp2
      go_ret
      have h3 := HEV.out
      rw [Nat.sub_self] at h3
      rw [← h3]
      exact ⟨rfl, HH.out.2.1, HH.out.2.2⟩
end Go.Proofs.Ytibofgokdjbomaa
