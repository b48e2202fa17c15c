/-
  The law CoderBack, walked.
-/
import Derived.Test.YtlmdjkahbejcdaaCodNil
import Derived.Test.YtlmdjkahbejcdaaCodMay
import Derived.Test.YtlmdjkahbejcdaaCodTri
import Derived.Test.YtlmdjkahbejcdaaReg3
import Derived.Test.YtlmdjkahbejcdaaStepOps
namespace Go.Proofs.Ytlmdjkahbejcdaa
open Go.RowKit

section
variable {o : Oper} {a : Act} {w : World}
theorem st_fieldD1 {x : Operand} {g : Nat} (h : o.op = .fieldAddr 35 x 1) (hx : Is (.pointer (some ⟨g, 0, none⟩)) (a.eval x) w) : Runs (Is (.pointer (some ⟨g, 1, none⟩))) o a w := by
  have hx' : a.eval x = .pointer (some ⟨g, 0, none⟩) := hx
  refine ⟨_, ?_, rfl⟩
  simp only [execOp, h, hx']
  kernel_rfl
theorem st_fieldD2 {x : Operand} {g : Nat} (h : o.op = .fieldAddr 35 x 2) (hx : Is (.pointer (some ⟨g, 0, none⟩)) (a.eval x) w) : Runs (Is (.pointer (some ⟨g, 2, none⟩))) o a w := by
  have hx' : a.eval x = .pointer (some ⟨g, 0, none⟩) := hx
  refine ⟨_, ?_, rfl⟩
  simp only [execOp, h, hx']
  kernel_rfl
theorem st_fieldD3 {x : Operand} {g : Nat} (h : o.op = .fieldAddr 35 x 3) (hx : Is (.pointer (some ⟨g, 0, none⟩)) (a.eval x) w) : Runs (Is (.pointer (some ⟨g, 3, none⟩))) o a w := by
  have hx' : a.eval x = .pointer (some ⟨g, 0, none⟩) := hx
  refine ⟨_, ?_, rfl⟩
  simp only [execOp, h, hx']
  kernel_rfl
theorem st_max0 {x : Operand} {q r : Int} (h : o.op = .call { callee := .builtin .max, args := #[x, .const (.int .i64 0)], argTypes := #[3, 3] }) (hx : Is (.int .i64 q) (a.eval x) w) (e : max q 0 = r) : Runs (Is (.int .i64 r)) o a w := by
  subst e
  exact ⟨_, ex_max0 h hx, rfl⟩
theorem st_neF {x y : Operand} {p q : Int} (h : o.op = .binOp .neq 3 x y 3) (hx : Is (.int .i64 p) (a.eval x) w) (hy : Is (.int .i64 q) (a.eval y) w) (e : p = q) : Runs (Is (.bool false)) o a w := by
  have hx' : a.eval x = .int .i64 p := hx
  have hy' : a.eval y = .int .i64 q := hy
  subst e
  refine ⟨_, ?_, rfl⟩
  simp only [execOp, h, hx', hy']
  simp [go_sem]
/-- Any number. -/
def IsI (v : Value) (_ : World) : Prop := ∃ q : Int, v = .int .i64 q
theorem st_shlX {y : Operand} {q : Int} (h : o.op = .binOp .shl 3 (.const (.int .i64 1)) y 3) (hy : Is (.int .i64 q) (a.eval y) w) (hq : 0 ≤ q) : Runs IsI o a w := by
  have hy' : a.eval y = .int .i64 q := hy
  have hc : a.eval (.const (.int .i64 1)) = .int .i64 1 := rfl
  have hn : ¬ q < 0 := by omega
  have hsh : Op.shift .shl .i64 1 .i64 q = pure (.int .i64 (IntKind.i64.wrap (1 * 2 ^ min q.toNat 64))) := by
    unfold Op.shift
    rw [if_neg hn]
    rfl
  refine ⟨.int .i64 (IntKind.i64.wrap (1 * 2 ^ min q.toNat 64)), ?_, _, rfl⟩
  simp only [execOp, h, hy', hc]
  simp [go_sem, hsh]
theorem st_shlP {y : Operand} {B : Nat} (h : o.op = .binOp .shl 3 (.const (.int .i64 1)) y 3) (hy : Is (.int .i64 (B : Int)) (a.eval y) w) (hB : B ≤ 62) : Runs (Is (.int .i64 (2 ^ B))) o a w := by
  have hy' : a.eval y = .int .i64 (B : Int) := hy
  have hc : a.eval (.const (.int .i64 1)) = .int .i64 1 := rfl
  have hw : IntKind.i64.wrap ((2 : Int) ^ B) = 2 ^ B := by rw [wrap_pow B hB]; norm_cast
  refine ⟨_, ?_, rfl⟩
  simp only [execOp, h, hy', hc]
  simp [go_sem, hw]
theorem st_subX {x : Operand} (h : o.op = .binOp .sub 3 x (.const (.int .i64 1)) 3) (hx : IsI (a.eval x) w) : Runs IsI o a w := by
  obtain ⟨q, hx'⟩ := hx
  have hc : a.eval (.const (.int .i64 1)) = .int .i64 1 := rfl
  refine ⟨.int .i64 (IntKind.i64.wrap (q - 1)), ?_, _, rfl⟩
  simp only [execOp, h, hx', hc]
  simp [go_sem]
theorem st_subP {x : Operand} {B : Nat} (h : o.op = .binOp .sub 3 x (.const (.int .i64 1)) 3) (hx : Is (.int .i64 (2 ^ B)) (a.eval x) w) (hB : B ≤ 62) : Runs (Is (.int .i64 (2 ^ B - 1))) o a w := by
  have hx' : a.eval x = .int .i64 (2 ^ B) := hx
  have hc : a.eval (.const (.int .i64 1)) = .int .i64 1 := rfl
  have hw : IntKind.i64.wrap ((2 : Int) ^ B - 1) = 2 ^ B - 1 := by
    have hp : (2 : Int) ^ B ≤ 2 ^ 62 := by exact_mod_cast (Nat.pow_le_pow_right (by decide) hB : (2 : Nat) ^ B ≤ 2 ^ 62)
    have h0 : (0 : Int) < 2 ^ B := Int.pow_pos (by decide)
    rw [IntKind.wrap_i64]
    generalize (2 : Int) ^ B = m at *
    omega
  refine ⟨_, ?_, rfl⟩
  simp only [execOp, h, hx', hc]
  simp [go_sem, hw]
theorem st_andX {x y : Operand} {n : Int} (h : o.op = .binOp .and 3 x y 3) (hx : Is (.int .i64 n) (a.eval x) w) (hy : IsI (a.eval y) w) : Runs IsI o a w := by
  have hx' : a.eval x = .int .i64 n := hx
  obtain ⟨q, hy'⟩ := hy
  refine ⟨.int .i64 (bits .and .i64 n q), ?_, _, rfl⟩
  simp only [execOp, h, hx', hy']
  simp [go_sem]
theorem st_andP {x y : Operand} {n : Int} {B : Nat} (h : o.op = .binOp .and 3 x y 3) (hx : Is (.int .i64 n) (a.eval x) w) (hy : Is (.int .i64 (2 ^ B - 1)) (a.eval y) w) (hB : B ≤ 62) : Runs (Is (.int .i64 ((lowN n B : Nat) : Int))) o a w := by
  have hx' : a.eval x = .int .i64 n := hx
  have hy' : a.eval y = .int .i64 (2 ^ B - 1) := hy
  have hw : bits .and .i64 n (2 ^ B - 1) = ((lowN n B : Nat) : Int) := by rw [i64_mask n B hB, lowN_cast]
  refine ⟨_, ?_, rfl⟩
  simp only [execOp, h, hx', hy']
  simp [go_sem, hw]
theorem st_idxCh {x y : Operand} {g n c j : Nat} (h : o.op = .indexAddr 26 x y) (hx : Is (.slice (some ⟨g, 0, none⟩) n c) (a.eval x) w) (hy : Is (.int .i64 (j : Int)) (a.eval y) w) (hj : j < n) : Runs (Is (.pointer (some ⟨g, j, none⟩))) o a w := by
  have hx' : a.eval x = .slice (some ⟨g, 0, none⟩) n c := hx
  have hy' : a.eval y = .int .i64 (j : Int) := hy
  have hs : (sizeOf 40).run Try.prog w = .ok 1 w := by kernel_rfl
  refine ⟨_, ?_, rfl⟩
  simp only [execOp, h, hx', hy']
  simp [go_sem, hj, hs, Addr.add]
  omega
end
theorem stays3_i {eff : Nat → List Nat} (j : Nat) : StaysBut3 eff j IsI := fun _ _ _ _ _ h _ => h

set_option maxRecDepth 1000000 in
set_option maxHeartbeats 16000000 in
theorem coderBack_walk (A : Option Addr) (len c : Nat) (l : List Dos) (w : World) (hr : RdD w (.slice A len c) l) (hf : ∀ d ∈ l, FitD d) :
    Calls Try.prog 4 #[.slice A len c] w (Awake w) := by
  by_cases hbig : 300 < len
  · have hd : decide (300 < (len : Int)) = true := by simp; omega
    clear hr
    go_enter Try.func4, Try.ntmps4
    go_wp2_with (go_at_call 10; refine (awake_any _).mono ?_; rintro e w9 ⟨rfl, hg9⟩)
    go_ret
    exact ⟨rfl, hg9⟩
  have hd : decide (300 < (len : Int)) = false := by simp; omega
  have HRD := Lib.hid hr
  have HLN := Lib.hid hr.len.1
  have HF := Lib.hid hf
  have hle : len ≤ 300 := by omega
  clear hr hbig hf
  go_enter Try.func4, Try.ntmps4
  go_wp2_with fail
  refine (begin_any w).mono ?_
  rintro e w1 ⟨g, rfl, ht1, hge1, hg1⟩
  have H1 := Lib.hid (And.intro ht1 (And.intro hge1 hg1))
  clear ht1 hge1 hg1
  go_wp2_with fail
  refine (chances_any 8 8 (by decide) w1).mono ?_
  rintro e w2 ⟨gc, t1, rfl, hr2, hge2, hg2⟩
  have H2 := Lib.hid (show Wt w2 g none beginS ∧ Row w2 gc t1 (chV (List.replicate 8 1024)) ∧ w.grownBy w2 none ∧ gc ≠ g ∧ w.heap.size ≤ g ∧ w.heap.size ≤ gc from ⟨H1.out.1.grown0 hg2, hr2, H1.out.2.2.trans hg2, fun e => by have := H1.out.1.lt; omega, H1.out.2.1, Nat.le_trans H1.out.2.2.size hge2⟩)
  clear hr2 hge2 hg2 H1
  go_wp2_with fail
  refine (chances_any 256 256 (by decide) w2).mono ?_
  rintro e w3 ⟨gt, t2, rfl, hr3, hge3, hg3⟩
  have HS := Lib.hid (show W3s w w3 g gc gt t1 t2 none triB from ⟨H2.out.1.grown0 hg3, H2.out.2.1.grown0 hg3, hr3, ⟨H2.out.2.2.2.1, fun e => by have := H2.out.1.lt; omega, fun e => by have := H2.out.2.1.lt; omega, by simp, by simp⟩, ⟨H2.out.2.2.2.2.1, H2.out.2.2.2.2.2, Nat.le_trans H2.out.2.2.1.size hge3, by simp⟩, H2.out.2.2.1.trans hg3⟩)
  clear hr3 hge3 hg3 H2
  go_wp2
  go_loopw [32] (fun i W => ∃ (k : Nat) (vb : Option Nat), k ≤ len ∧ i = .int .i64 k ∧ W3s w W g gc gt t1 t2 vb (putsD triB (l.take k))) (fun i _ => len - (intOf i).toNat)
  case atStart => exact ⟨0, none, Nat.zero_le _, rfl, HS.out⟩
  case round =>
    obtain ⟨k, vb, hk, rfl, hh⟩ := hrel
    have HH := Lib.hid hh
    have HO := Lib.hid (putsD_ok (l.take k) triB_ok)
    have HSL := Lib.hid (show (putsD triB (l.take k)).s.out.length ≤ 9600 by
      have := putsD_len (l.take k) triB
      have h2 : (l.take k).length ≤ 300 := by rw [List.length_take]; omega
      have h3 : triB.s.out.length = 0 := rfl
      omega)
    clear hh HS
    by_cases hlt : k < len
    · have hdk : decide ((k : Int) < (len : Int)) = true := by simp; omega
      have hk300 : k < 300 := by omega
      obtain ⟨ad, d, rfl, hdl, c0, c1, c2, c3⟩ := (HRD.out.grown0 HH.out.grow).step (show k < l.length by rw [HLN.out]; exact hlt)
      have hkl : l[k]? = some d := by rw [← hdl]; exact List.getElem?_eq_getElem _
      have HFD := Lib.hid (HF.out d (by rw [← hdl]; exact List.getElem_mem _))
      have hpd := putsD_take l triB k d hkl
      obtain ⟨Y, hY⟩ : ∃ Y, Y = putsD triB (l.take (k + 1)) := ⟨_, rfl⟩
      rw [← hY] at hpd
      have HPD := Lib.hid hpd
      have HPY := Lib.hid hY
      clear hpd hY
      generalize putsD triB (l.take k) = X at *
      obtain ⟨gd, hgd⟩ : ∃ gd, wr.heap.size = gd := ⟨_, rfl⟩
      obtain ⟨vv, kv, nv, bv⟩ := d
      simp only at c0 c1 c2 c3
      obtain ⟨W4, hW4⟩ : ∃ W, wr.alloc (.cells #[.int .i64 vv, .int .i64 kv, .int .i64 nv, .int .i64 bv] 35) = W := ⟨_, rfl⟩
      have hg4 : wr.grownBy W4 none := by rw [← hW4]; exact grown_alloc (grown_refl _ _) _
      have HD4 := Lib.hid (show Row W4 gd 35 [.int .i64 vv, .int .i64 kv, .int .i64 nv, .int .i64 bv] by rw [← hW4]; exact Row.newAt wr _ [.int .i64 vv, .int .i64 kv, .int .i64 nv, .int .i64 bv] hgd)
      have H4 := Lib.hid (HH.out.grown0 hg4)
      have e0 := HD4.out.cell (j := 0) rfl
      have e1 := HD4.out.cell (j := 1) rfl
      have e2 := HD4.out.cell (j := 2) rfl
      have e3 := HD4.out.cell (j := 3) rfl
      clear hg4 hdl hkl HH
      -- MADE by tools/mkback.py
      go_wp2_with fail
      refine (may_any ⟨vv, kv, nv, bv⟩ W4).mono ?_
      rintro e w5 ⟨⟨b, rfl, hb⟩, hg5⟩
      have HD5 := Lib.hid (HD4.out.grown0 hg5)
      have H5 := Lib.hid (H4.out.grown0 hg5)
      have HB := Lib.hid hb
      clear hg5 hb e0 e1 e2 e3 hW4 hgd H4 HD4 c0 c1 c2 c3
      have e0 := HD5.out.cell (j := 0) rfl
      have e1 := HD5.out.cell (j := 1) rfl
      have e2 := HD5.out.cell (j := 2) rfl
      have e3 := HD5.out.cell (j := 3) rfl
      cases b with
      | false =>
        have HY := Lib.hid (show Y = X by
          rw [HPD.out]
          have hno : ¬ (may0 ⟨vv, kv, nv, bv⟩ ∨ may1 ⟨vv, kv, nv, bv⟩ ∨ may2 ⟨vv, kv, nv, bv⟩) := fun h => by cases (HB.out).2 h
          exact putDn (fun h => hno (.inl h)) (fun h => hno (.inr (.inl h))) (fun h => hno (.inr (.inr h))))
        clear HD5
        go_wp2
        go_roundw
        case rel => exact ⟨k + 1, vb, by omega, by go_num, by rw [← HPY.out, HY.out]; exact H5.out⟩
        case measure => simp only [intOf]; omega
      | true =>
        rcases (HB.out).1 rfl with hm | hm | hm
        · obtain ⟨hv, h1, h2, h3, h4⟩ := id hm
          have HY := Lib.hid (HPD.out.trans (putD0 hm))
          simp only at hv h1 h2 h3 h4
          subst hv
          obtain ⟨j, rfl⟩ : ∃ j : Nat, kv = j := ⟨kv.toNat, by omega⟩
          have hj8 : j < 8 := by omega
          have hji : (j : Int) < 8 := h2
          have hjL : j < X.c.length := by rw [HO.out.c8]; exact hj8
          have HBT := Lib.hid (fun W (hW : Wt W g vb X.s) (hR : Row W gc t1 (chV X.c)) => bit_at g vb X.s gc j t1 X.c nv W hW HO.out.s.ok (by have := HSL.out; omega) hR hjL HO.out.c ⟨H5.out.ne.1, H5.out.ne.2.2.2.1⟩)
          have HY2 := Lib.hid (show Y = ⟨(bitS X.s X.c j (decide (nv ≠ 0))).1, (bitS X.s X.c j (decide (nv ≠ 0))).2, X.t⟩ from HY.out)
          generalize bitS X.s X.c j (decide (nv ≠ 0)) = SL at *
          have e1d : w5.drew.cell? ⟨gd, 1, none⟩ = some (.int .i64 (j : Int)) := e1
          have e2d : w5.drew.cell? ⟨gd, 2, none⟩ = some (.int .i64 nv) := e2
          have H5d := Lib.hid (H5.out.grown0 (grown_drew (grown_refl w5 none)))
          clear hm h1 h2 h3 h4 hjL HY HD5
          go_wp2
          refine wp_region_still_tail 7 (by kernel_rfl) (by kernel_rfl) ?_
          change wpStill _ _ w5.drew (fun a' => wpList _ _ _ _ a' w5.drew) _ _
          generalize w5.drew = W6 at *
          simp only [List.take_succ_cons, List.take_zero, List.drop_succ_cons, List.drop_zero]
          repeat still_step
          refine wpStill_nil ?_
          go_wp2_with fail
          refine (HBT.out W6 H5d.out.wt H5d.out.rc).mono ?_
          rintro e w7 ⟨rfl, vb7, ht7, hr7, hn7⟩
          have H7 := Lib.hid (show W3s w w7 g gc gt t1 t2 vb7 Y by rw [HY2.out]; exact H5d.out.bit ht7 hr7 hn7)
          clear ht7 hr7 hn7 e1d e2d e0 e1 e2 e3
          go_wp2
          go_roundw
          case rel => exact ⟨k + 1, vb7, by omega, by go_num, by rw [← HPY.out]; exact H7.out⟩
          case measure => simp only [intOf]; omega
        · obtain ⟨hv, h1, h2⟩ := id hm
          have HY := Lib.hid (HPD.out.trans (putD1 hm))
          simp only at hv h1 h2
          subst hv
          obtain ⟨B, rfl⟩ : ∃ B : Nat, bv = B := ⟨bv.toNat, by omega⟩
          have HEV := Lib.hid (even_at g vb X.s nv B w5 H5.out.wt HO.out.s.ok (by have := HSL.out; omega) (by omega) HFD.out.n)
          have HY2 := Lib.hid (show Y = ⟨evenS X.s nv B, X.c, X.t⟩ from HY.out)
          generalize evenS X.s nv B = S1 at *
          clear hm h1 h2 HY HD5
          go_wp2_with fail
          refine HEV.out.mono ?_
          rintro e w7 ⟨rfl, vb7, ht7, hn7⟩
          have H7 := Lib.hid (show W3s w w7 g gc gt t1 t2 vb7 Y by rw [HY2.out]; exact H5.out.even ht7 hn7)
          clear ht7 hn7 e0 e1 e2 e3
          go_wp2
          go_roundw
          case rel => exact ⟨k + 1, vb7, by omega, by go_num, by rw [← HPY.out]; exact H7.out⟩
          case measure => simp only [intOf]; omega
        · obtain ⟨hv, h1, h2⟩ := id hm
          have HY := Lib.hid (HPD.out.trans (putD2 hm))
          simp only at hv h1 h2
          subst hv
          obtain ⟨B, rfl⟩ : ∃ B : Nat, bv = B := ⟨bv.toNat, by omega⟩
          have hB8 : B ≤ 8 := by omega
          have hp8 : 2 ^ B ≤ 256 := by have := tree8 hB8; omega
          have HTR := Lib.hid (tree_at g vb X.s gt t2 X.t 256 256 nv B w5 H5.out.wt HO.out.s.ok (by have := HSL.out; omega) H5.out.rt HO.out.t256 HO.out.t ⟨H5.out.ne.2.1, H5.out.ne.2.2.2.2⟩ (by omega) hp8 (by decide) HFD.out.n)
          have HY2 := Lib.hid (show Y = ⟨(treeS X.s X.t nv B 1).1, X.c, (treeS X.s X.t nv B 1).2⟩ from HY.out)
          generalize treeS X.s X.t nv B 1 = SL at *
          clear hm h1 h2 hp8 HY HD5
          go_wp2_with fail
          refine HTR.out.mono ?_
          rintro e w7 ⟨rfl, vb7, ht7, hr7, hn7⟩
          have H7 := Lib.hid (show W3s w w7 g gc gt t1 t2 vb7 Y by rw [HY2.out]; exact H5.out.tree ht7 hr7 hn7)
          clear ht7 hr7 hn7 e0 e1 e2 e3
          go_wp2
          go_roundw
          case rel => exact ⟨k + 1, vb7, by omega, by go_num, by rw [← HPY.out]; exact H7.out⟩
          case measure => simp only [intOf]; omega
    · obtain rfl : k = len := by omega
      have hdk : decide ((k : Int) < (k : Int)) = false := by simp
      rw [List.take_of_length_le (by rw [HLN.out]; exact Nat.le_refl _)] at HH HO HSL
      have HE1 := Lib.hid (end_at g vb _ wr HH.out.wt HO.out.s.ok (by have := HSL.out; omega))
      have HEL := Lib.hid (show 4 ≤ (endS (putsD triB l).s).length ∧ (endS (putsD triB l).s).length ≤ 10000 by rw [endS_len]; have := HSL.out; omega)
      have HGO := Lib.hid (goes_at l)
      have HFIN := Lib.hid (goes_end HO.out.s.ok).2
      have HWD := Lib.hid (show 0 < (putsD triB l).s.width by have := HO.out.s.ok.wide; omega)
      generalize endS (putsD triB l).s = E at *
      generalize (putsD triB l).s.width = WD at *
      go_wp2_with fail
      refine HE1.out.mono ?_
      rintro e w3b ⟨u, rfl, ho3, vb3, ht3, hn3⟩
      obtain ⟨A3, c3, rfl⟩ := own_form ho3
      have HOP := Lib.hid (open_any _ E w3b (Rd.of_own ho3) (by have := HEL.out; omega))
      have HG3 := Lib.hid (HH.out.even ht3 hn3).grow
      clear ho3 ht3 hn3 HE1 HH HO HSL
      go_wp2_with fail
      refine HOP.out.mono ?_
      rintro e w4 ⟨gr, vbr, rfl, hrs4, hge4, hvb4, hg4⟩
      rw [rdAt_begin HEL.out.1] at hrs4
      have H4 := Lib.hid (show Rs w4 gr vbr (rdAt E beginS) ∧ w.heap.size ≤ gr ∧ (∀ b, vbr = some b → b < w4.heap.size) ∧ w.grownBy w4 none from ⟨hrs4, Nat.le_trans HG3.out.size hge4, fun b hb => (hvb4 b hb).2, HG3.out.trans hg4⟩)
      clear hrs4 hge4 hvb4 hg4 HOP HG3
      go_wp2_with fail
      refine (chances_any 8 8 (by decide) w4).mono ?_
      rintro e w5 ⟨ge, te, rfl, hr5, hge5, hg5⟩
      have H5 := Lib.hid (show Rs w5 gr vbr (rdAt E beginS) ∧ Row w5 ge te (chV triB.c) ∧ w.grownBy w5 none ∧ ge ≠ gr ∧ vbr ≠ some ge ∧ w.heap.size ≤ gr ∧ w.heap.size ≤ ge ∧ (∀ b, vbr = some b → b < w5.heap.size) from ⟨H4.out.1.grown0 hg5, hr5, H4.out.2.2.2.trans hg5, fun e => by have := H4.out.1.lt; omega, fun e => by have := H4.out.2.2.1 ge e; omega, H4.out.2.1, Nat.le_trans H4.out.2.2.2.size hge5, fun b hb => Nat.lt_of_lt_of_le (H4.out.2.2.1 b hb) hg5.size⟩)
      clear hr5 hge5 hg5 H4
      go_wp2_with fail
      refine (chances_any 256 256 (by decide) w5).mono ?_
      rintro e w6 ⟨gh, th, rfl, hr6, hge6, hg6⟩
      have HS := Lib.hid (show R3s w w6 gr ge gh te th vbr (rdAt E beginS) triB.c triB.t from ⟨H5.out.1.grown0 hg6, H5.out.2.1.grown0 hg6, hr6, ⟨H5.out.2.2.2.1, fun e => by have := H5.out.1.lt; omega, fun e => by have := H5.out.2.1.lt; omega, H5.out.2.2.2.2.1, fun e => by have := H5.out.2.2.2.2.2.2.2 gh e; omega⟩, ⟨H5.out.2.2.2.2.2.1, H5.out.2.2.2.2.2.2.1, Nat.le_trans H5.out.2.2.1.size hge6⟩, H5.out.2.2.1.trans hg6⟩)
      clear hr6 hge6 hg6 H5
      go_wp2
      go_loopw [78] (fun i W => ∃ m : Nat, m ≤ k ∧ i = .int .i64 m ∧ R3s w W gr ge gh te th vbr (rdAt E (putsD triB (l.take m)).s) (putsD triB (l.take m)).c (putsD triB (l.take m)).t) (fun i _ => k - (intOf i).toNat)
      case atStart => exact ⟨0, Nat.zero_le _, rfl, HS.out⟩
      case round =>
        obtain ⟨m, hm, rfl, hh⟩ := hrel
        have HH := Lib.hid hh
        clear hh HS
        by_cases hlt2 : m < k
        · have hdk2 : decide ((m : Int) < (k : Int)) = true := by simp; omega
          have hm300 : m < 300 := by omega
          have HO := Lib.hid (putsD_ok (l.take m) triB_ok)
          obtain ⟨ad, d, rfl, hdl, c0, c1, c2, c3⟩ := (HRD.out.grown0 HH.out.grow).step (show m < l.length by rw [HLN.out]; exact hlt2)
          have hkl : l[m]? = some d := by rw [← hdl]; exact List.getElem?_eq_getElem _
          have HFD := Lib.hid (HF.out d (by rw [← hdl]; exact List.getElem_mem _))
          have hpd := putsD_take l triB m d hkl
          have hgo := HGO.out (m + 1)
          obtain ⟨Y, hY⟩ : ∃ Y, Y = putsD triB (l.take (m + 1)) := ⟨_, rfl⟩
          rw [← hY] at hpd hgo
          have HPD := Lib.hid hpd
          have HPY := Lib.hid hY
          have HG1 := Lib.hid hgo
          clear hpd hY hgo
          generalize putsD triB (l.take m) = X at *
          obtain ⟨gd, hgd⟩ : ∃ gd, wr.heap.size = gd := ⟨_, rfl⟩
          obtain ⟨vv, kv, nv, bv⟩ := d
          simp only at c0 c1 c2 c3
          obtain ⟨W4, hW4⟩ : ∃ W, wr.alloc (.cells #[.int .i64 vv, .int .i64 kv, .int .i64 nv, .int .i64 bv] 35) = W := ⟨_, rfl⟩
          have hg4 : wr.grownBy W4 none := by rw [← hW4]; exact grown_alloc (grown_refl _ _) _
          have HD4 := Lib.hid (show Row W4 gd 35 [.int .i64 vv, .int .i64 kv, .int .i64 nv, .int .i64 bv] by rw [← hW4]; exact Row.newAt wr _ [.int .i64 vv, .int .i64 kv, .int .i64 nv, .int .i64 bv] hgd)
          have HDN := Lib.hid (show gd ≠ gr ∧ gd ≠ ge ∧ gd ≠ gh from ⟨fun e => by have := HH.out.rs.lt; omega, fun e => by have := HH.out.rc.lt; omega, fun e => by have := HH.out.rt.lt; omega⟩)
          have H4 := Lib.hid (HH.out.grown0 hg4)
          have e0 := HD4.out.cell (j := 0) rfl
          have e1 := HD4.out.cell (j := 1) rfl
          have e2 := HD4.out.cell (j := 2) rfl
          have e3 := HD4.out.cell (j := 3) rfl
          clear hg4 hdl hkl HH
          go_wp2_with fail
          refine (may_any ⟨vv, kv, nv, bv⟩ W4).mono ?_
          rintro e w5b ⟨⟨b, rfl, hb⟩, hg5⟩
          have HD5 := Lib.hid (HD4.out.grown0 hg5)
          have H5 := Lib.hid (H4.out.grown0 hg5)
          have HB := Lib.hid hb
          clear hg5 hb e0 e1 e2 e3 hW4 hgd H4 HD4 c0 c1 c2 c3
          cases b with
          | false =>
            have HY := Lib.hid (show Y = X by
              rw [HPD.out]
              have hno : ¬ (may0 ⟨vv, kv, nv, bv⟩ ∨ may1 ⟨vv, kv, nv, bv⟩ ∨ may2 ⟨vv, kv, nv, bv⟩) := fun h => by cases (HB.out).2 h
              exact putDn (fun h => hno (.inl h)) (fun h => hno (.inr (.inl h))) (fun h => hno (.inr (.inr h))))
            clear HD5
            go_wp2
            go_roundw
            case rel => exact ⟨m + 1, by omega, by go_num, by rw [← HPY.out, HY.out]; exact H5.out⟩
            case measure => simp only [intOf]; omega
          | true =>
            rcases (HB.out).1 rfl with hm0 | hm0 | hm0
            -- CASES
            · obtain ⟨hv, h1, h2, h3, h4⟩ := id hm0
              have hpd := HPD.out
              rw [putD0 hm0] at hpd
              simp only at hv h1 h2 h3 h4 hpd
              subst hv
              obtain ⟨j, rfl⟩ : ∃ j : Nat, kv = j := ⟨kv.toNat, by omega⟩
              rw [Int.toNat_natCast] at hpd
              have hj8 : j < 8 := by omega
              have hjL : j < X.c.length := by rw [HO.out.c8]; exact hj8
              have hbk := bit_back HO.out.s HO.out.c hjL (b := decide (nv ≠ 0)) (B := E) (by have := HG1.out; rw [hpd] at this; exact this)
              have HNB := Lib.hid (show (((decide (nv ≠ 0)).toNat : Nat) : Int) = nv by
                rcases (show nv = 0 ∨ nv = 1 by omega) with rfl | rfl <;> rfl)
              have hrok := rdAt_ok HO.out.s (putD_back HO.out (by have := HG1.out; rw [HPD.out] at this; exact this))
              have HBT := Lib.hid (fun W (hn : ge ≠ gr ∧ vbr ≠ some ge) (hW : Rs W gr vbr (rdAt E X.s)) (hR : Row W ge te (chV X.c)) => rbit_at gr vbr (rdAt E X.s) ge j te X.c W hW hrok hR hjL HO.out.c hn)
              rw [hbk] at HBT
              have HYS := Lib.hid hpd
              have HJ8 := Lib.hid hj8
              generalize bitS X.s X.c j (decide (nv ≠ 0)) = SL at *
              generalize decide (nv ≠ 0) = nb at *
              clear hm0 h1 h2 h3 h4 hjL hbk hrok hpd hj8
              go_wp2
              refine wp_region_walk3 9 [] dis_nil (by kernel_rfl) (by kernel_rfl) (by kernel_rfl) ?_
              simp only [List.take_succ_cons, List.take_zero, List.drop_succ_cons, List.drop_zero]
              refine Walk.val (G := Is (.pointer (some ⟨gd, 2, none⟩))) (stays_is _ _) rfl rfl (fun a w hm hd => ⟨wanted_plain rfl, st_fieldD2 rfl (by rw [hm.outer 13 (by kernel_rfl)]; rfl)⟩) ?_
              refine Walk.val (G := Is (.int .i64 nv)) (stays_is _ _) rfl rfl (fun a w hm hd => ⟨wanted_plain rfl, st_cell rfl (fun _ => by kernel_rfl) (hd.at_ 0 rfl rfl rfl rfl) ((HD5.out.grown0 (GrownX.none2 hm.grow)).cell (j := 2) rfl)⟩) ?_
              refine Walk.val (G := Is (.pointer (some ⟨gd, 3, none⟩))) (stays_is _ _) rfl rfl (fun a w hm hd => ⟨wanted_plain rfl, st_fieldD3 rfl (by rw [hm.outer 13 (by kernel_rfl)]; rfl)⟩) ?_
              refine Walk.val (G := Is (.int .i64 bv)) (stays_is _ _) rfl rfl (fun a w hm hd => ⟨wanted_plain rfl, st_cell rfl (fun _ => by kernel_rfl) (hd.at_ 2 rfl rfl rfl rfl) ((HD5.out.grown0 (GrownX.none2 hm.grow)).cell (j := 3) rfl)⟩) ?_
              refine Walk.val (G := Is (.int .i64 (max bv 0))) (stays_is _ _) rfl rfl (fun a w hm hd => ⟨wanted_plain rfl, st_max0 rfl (hd.at_ 3 rfl rfl rfl rfl) rfl⟩) ?_
              refine Walk.val (G := IsI) (fun _ _ _ _ _ h _ => h) rfl rfl (fun a w hm hd => ⟨wanted_plain rfl, st_shlX rfl (hd.at_ 4 rfl rfl rfl rfl) (by omega)⟩) ?_
              refine Walk.val (G := IsI) (fun _ _ _ _ _ h _ => h) rfl rfl (fun a w hm hd => ⟨wanted_plain rfl, st_subX rfl (hd.at_ 5 rfl rfl rfl rfl)⟩) ?_
              refine Walk.val (G := IsI) (fun _ _ _ _ _ h _ => h) rfl rfl (fun a w hm hd => ⟨wanted_plain rfl, st_andX rfl (hd.at_ 1 rfl rfl rfl rfl) (hd.at_ 6 rfl rfl rfl rfl)⟩) ?_
              refine Walk.val (G := IsI) (fun _ _ _ _ _ h _ => h) rfl rfl (fun a w hm hd => ⟨wanted_plain rfl, st_assign rfl (hd.at_ 7 rfl rfl rfl rfl)⟩) ?_
              intro a9 V9 hm9 hall
              obtain ⟨q91, f91⟩ : IsI (a9.eval (.tmp 91)) V9 := hall 5 _ _ rfl rfl
              obtain ⟨q92, f92⟩ : IsI (a9.eval (.tmp 92)) V9 := hall 6 _ _ rfl rfl
              obtain ⟨q93, f93⟩ : IsI (a9.eval (.tmp 93)) V9 := hall 7 _ _ rfl rfl
              obtain ⟨q14, f14⟩ : IsI (a9.eval (.tmp 14)) V9 := hall 8 _ _ rfl rfl
              have f86 : Is (.pointer (some ⟨gd, 2, none⟩)) (a9.eval (.tmp 86)) V9 := hall 0 _ _ rfl rfl
              have f87 : Is (.int .i64 nv) (a9.eval (.tmp 87)) V9 := hall 1 _ _ rfl rfl
              have f88 : Is (.pointer (some ⟨gd, 3, none⟩)) (a9.eval (.tmp 88)) V9 := hall 2 _ _ rfl rfl
              have f89 : Is (.int .i64 bv) (a9.eval (.tmp 89)) V9 := hall 3 _ _ rfl rfl
              have f90 : Is (.int .i64 (max bv 0)) (a9.eval (.tmp 90)) V9 := hall 4 _ _ rfl rfl
              have hfr := hm9.frame
              simp only [List.take_succ_cons, List.take_zero, List.filterMap_cons, List.filterMap_nil, List.foldl_cons, List.foldl_nil] at hfr
              have hgV9 := GrownX.none2 hm9.grow
              have f86 : a9.eval (.tmp 86) = _ := f86
              rw [f86] at hfr
              have f87 : a9.eval (.tmp 87) = _ := f87
              rw [f87] at hfr
              have f88 : a9.eval (.tmp 88) = _ := f88
              rw [f88] at hfr
              have f89 : a9.eval (.tmp 89) = _ := f89
              rw [f89] at hfr
              have f90 : a9.eval (.tmp 90) = _ := f90
              rw [f90] at hfr
              rw [f91, f92, f93, f14] at hfr
              clear hall hm9
              have HD9 := Lib.hid (HD5.out.grown0 hgV9)
              have H9 := Lib.hid (H5.out.grown0 hgV9)
              clear hgV9 H5 HD5
              clear f86
              clear f87
              clear f88
              clear f89
              clear f90
              clear f91
              clear f92
              clear f93
              clear f14
              have e0 := HD9.out.cell (j := 0) rfl
              have e1 := HD9.out.cell (j := 1) rfl
              have e2 := HD9.out.cell (j := 2) rfl
              have e3 := HD9.out.cell (j := 3) rfl
              unfold wpList
              rw [hfr]
              clear hfr
              go_simp
              have H9d := Lib.hid (H9.out.grown0 (grown_drew (grown_refl V9 none)))
              have HSUB := Lib.hid (show allOf (fun i => if i = 5 then [gr, ge] else []) [gr, ge] from fun i x hg => by
                have hg' : x ∈ (if i = 5 then [gr, ge] else []) := hg
                by_cases h : i = 5
                · rw [if_pos h] at hg'; exact hg'
                · rw [if_neg h] at hg'; cases hg')
              have HDIS := Lib.hid (show ∀ i j x, x ∈ (fun i => if i = 5 then [gr, ge] else []) i → x ∈ (fun i => if i = 5 then [gr, ge] else []) j → i = j from fun i j x hi hj => by
                by_cases h : i = 5
                · by_cases h' : j = 5
                  · omega
                  · simp [h'] at hj
                · simp [h] at hi)
              have HK := Lib.hid (show (fun i => if i = 5 then [gr, ge] else []) 5 = [gr, ge] from rfl)
              have HKO := Lib.hid (show ∀ i, i ≠ 5 → (fun i => if i = 5 then [gr, ge] else []) i = [] from fun i h => if_neg h)
              obtain ⟨eff, heff⟩ : ∃ eff : Nat → List Nat, eff = fun i => if i = 5 then [gr, ge] else [] := ⟨_, rfl⟩
              rw [← heff] at HSUB HDIS HK HKO
              have HDX := Lib.hid (show ∀ W, GrownX [gr, ge] V9.drew W → Row W gd 35 [.int .i64 0, .int .i64 (j : Int), .int .i64 nv, .int .i64 bv] from fun W h => h.rowC HD9.out (by simp; exact ⟨HDN.out.1, HDN.out.2.1⟩))
              clear heff e0 e1 e2 e3
              have e0 := HD9.out.cell (j := 0) rfl
              go_wp2
              refine wp_region_walkX 9 eff [gr, ge] HSUB.out HDIS.out (by kernel_rfl) (by kernel_rfl) (by kernel_rfl) ?_
              simp only [List.take_succ_cons, List.take_zero, List.drop_succ_cons, List.drop_zero]
              refine Walk3.val (G := Is (.pointer (some ⟨gr, 0, none⟩))) (stays3_is _ _) rfl rfl (fun a w hm hd => ⟨wanted_plain rfl, st_move rfl (by rw [hm.outer 9 (by kernel_rfl)]; rfl)⟩) ?_
              refine Walk3.val (G := Is (.slice (some ⟨ge, 0, none⟩) 8 8)) (stays3_is _ _) rfl rfl (fun a w hm hd => ⟨wanted_plain rfl, st_move rfl (by rw [hm.outer 10 (by kernel_rfl)]; rfl)⟩) ?_
              refine Walk3.val (G := Is (.pointer (some ⟨gd, 1, none⟩))) (stays3_is _ _) rfl rfl (fun a w hm hd => ⟨wanted_plain rfl, st_fieldD1 rfl (by rw [hm.outer 13 (by kernel_rfl)]; rfl)⟩) ?_
              refine Walk3.val (G := Is (.int .i64 (j : Int))) (stays3_is _ _) rfl rfl (fun a w hm hd => ⟨wanted_plain rfl, st_cell rfl (fun _ => by kernel_rfl) (hd.at_ 2 rfl rfl rfl rfl) ((HDX.out w hm.grow).cell (j := 1) rfl)⟩) ?_
              refine Walk3.val (G := Is (.pointer (some ⟨ge, j, none⟩))) (stays3_is _ _) rfl rfl (fun a w hm hd => ⟨wanted_plain rfl, st_idxCh rfl (hd.at_ 1 rfl rfl rfl rfl) (hd.at_ 3 rfl rfl rfl rfl) HJ8.out⟩) ?_
              refine Walk3.call (G := (fun u W => u = .int .i64 nv ∧ R3s w W gr ge gh te th vbr (rdAt E SL.1) SL.2 X.t)) (fun i hi v w w' h hg => ⟨h.1, h.2.grown0 (by rw [HKO.out i hi] at hg; exact hg.to0)⟩) rfl 25 rfl (fun a w hm ha hd => ⟨wanted_plain rfl, _, ex_call2 Try.func25 (by kernel_rfl) (by kernel_rfl) rfl, by
                rw [show a.eval (.tmp 98) = _ from (hd.at_ 0 rfl rfl rfl rfl), show a.eval (.tmp 102) = _ from (hd.at_ 4 rfl rfl rfl rfl)]
                have hmid := H9.out.midst (fun b hb hlt => ha b (by rw [HK.out]; exact hb) hlt) hm.grow
                refine (HBT.out w ⟨H9.out.ne.1, H9.out.ne.2.2.2.1⟩ hmid.rs hmid.rc).mono ?_
                rintro e w' ⟨rfl, hrs, hrc, hn⟩
                refine ⟨_, rfl, ?_, by rw [HNB.out], hmid.bit hrs hrc hn⟩
                rw [HK.out]
                exact ⟨hn.os, hn.tape, hn.output, hn.size, fun b hb hne => hn.block b hb hne (by simp)⟩
                ⟩) ?_
              refine Walk3.val (G := Is (.pointer (some ⟨gd, 2, none⟩))) (stays3_is _ _) rfl rfl (fun a w hm hd => ⟨wanted_plain rfl, st_fieldD2 rfl (by rw [hm.outer 13 (by kernel_rfl)]; rfl)⟩) ?_
              refine Walk3.val (G := Is (.int .i64 nv)) (stays3_is _ _) rfl rfl (fun a w hm hd => ⟨wanted_plain rfl, st_cell rfl (fun _ => by kernel_rfl) (hd.at_ 6 rfl rfl rfl rfl) ((HDX.out w hm.grow).cell (j := 2) rfl)⟩) ?_
              refine Walk3.val (G := Is (.bool false)) (stays3_is _ _) rfl rfl (fun a w hm hd => ⟨wanted_plain rfl, st_neF rfl (show Is (.int .i64 nv) _ _ from ((hd.at_ 5 rfl rfl rfl rfl)).1) (hd.at_ 7 rfl rfl rfl rfl) rfl⟩) ?_
              intro a8 V8 hm8 hall
              obtain ⟨f103, h11⟩ := hall 5 _ _ rfl rfl
              have f103 : a8.eval (.tmp 103) = .int .i64 nv := f103
              have H11 := Lib.hid h11
              have f98 : Is (.pointer (some ⟨gr, 0, none⟩)) (a8.eval (.tmp 98)) V8 := hall 0 _ _ rfl rfl
              have f99 : Is (.slice (some ⟨ge, 0, none⟩) 8 8) (a8.eval (.tmp 99)) V8 := hall 1 _ _ rfl rfl
              have f100 : Is (.pointer (some ⟨gd, 1, none⟩)) (a8.eval (.tmp 100)) V8 := hall 2 _ _ rfl rfl
              have f101 : Is (.int .i64 (j : Int)) (a8.eval (.tmp 101)) V8 := hall 3 _ _ rfl rfl
              have f102 : Is (.pointer (some ⟨ge, j, none⟩)) (a8.eval (.tmp 102)) V8 := hall 4 _ _ rfl rfl
              have f104 : Is (.pointer (some ⟨gd, 2, none⟩)) (a8.eval (.tmp 104)) V8 := hall 6 _ _ rfl rfl
              have f105 : Is (.int .i64 nv) (a8.eval (.tmp 105)) V8 := hall 7 _ _ rfl rfl
              have f106 : Is (.bool false) (a8.eval (.tmp 106)) V8 := hall 8 _ _ rfl rfl
              have hfr := hm8.frame
              simp only [List.take_succ_cons, List.take_zero, List.filterMap_cons, List.filterMap_nil, List.foldl_cons, List.foldl_nil] at hfr
              have f98 : a8.eval (.tmp 98) = _ := f98
              rw [f98] at hfr
              have f99 : a8.eval (.tmp 99) = _ := f99
              rw [f99] at hfr
              have f100 : a8.eval (.tmp 100) = _ := f100
              rw [f100] at hfr
              have f101 : a8.eval (.tmp 101) = _ := f101
              rw [f101] at hfr
              have f102 : a8.eval (.tmp 102) = _ := f102
              rw [f102] at hfr
              have f103 : a8.eval (.tmp 103) = _ := f103
              rw [f103] at hfr
              have f104 : a8.eval (.tmp 104) = _ := f104
              rw [f104] at hfr
              have f105 : a8.eval (.tmp 105) = _ := f105
              rw [f105] at hfr
              have f106 : a8.eval (.tmp 106) = _ := f106
              rw [f106] at hfr
              clear hall hm8 h11
              clear f98
              clear f99
              clear f100
              clear f101
              clear f102
              clear f103
              clear f104
              clear f105
              clear f106
              unfold wpList
              rw [hfr]
              clear hfr
              go_simp
              go_wp2
              go_roundw
              case rel => exact ⟨m + 1, by omega, by go_num, by rw [← HPY.out, HYS.out]; exact H11.out⟩
              case measure => simp only [intOf]; omega
            · obtain ⟨hv, h1, h2⟩ := id hm0
              have hpd := HPD.out
              rw [putD1 hm0] at hpd
              simp only at hv h1 h2 hpd
              subst hv
              obtain ⟨B, rfl⟩ : ∃ B : Nat, bv = B := ⟨bv.toNat, by omega⟩
              rw [Int.toNat_natCast] at hpd
              have hB : B ≤ 32 := by omega
              have hbk := even_back nv B 0 HO.out.s (B := E) (by have := HG1.out; rw [hpd] at this; exact this)
              rw [Nat.zero_mul, Nat.zero_add] at hbk
              have hrok := rdAt_ok HO.out.s (putD_back HO.out (by have := HG1.out; rw [HPD.out] at this; exact this))
              have HEV := Lib.hid (fun W (hW : Rs W gr vbr (rdAt E X.s)) => reven_at gr vbr (rdAt E X.s) B W hW hrok hB)
              rw [hbk] at HEV
              have HYS := Lib.hid hpd
              generalize evenS X.s nv B = S1 at *
              clear hm0 h1 h2 hbk hrok hpd
              go_wp2
              refine wp_region_walk3 9 [] dis_nil (by kernel_rfl) (by kernel_rfl) (by kernel_rfl) ?_
              simp only [List.take_succ_cons, List.take_zero, List.drop_succ_cons, List.drop_zero]
              refine Walk.val (G := Is (.pointer (some ⟨gd, 2, none⟩))) (stays_is _ _) rfl rfl (fun a w hm hd => ⟨wanted_plain rfl, st_fieldD2 rfl (by rw [hm.outer 13 (by kernel_rfl)]; rfl)⟩) ?_
              refine Walk.val (G := Is (.int .i64 nv)) (stays_is _ _) rfl rfl (fun a w hm hd => ⟨wanted_plain rfl, st_cell rfl (fun _ => by kernel_rfl) (hd.at_ 0 rfl rfl rfl rfl) ((HD5.out.grown0 (GrownX.none2 hm.grow)).cell (j := 2) rfl)⟩) ?_
              refine Walk.val (G := Is (.pointer (some ⟨gd, 3, none⟩))) (stays_is _ _) rfl rfl (fun a w hm hd => ⟨wanted_plain rfl, st_fieldD3 rfl (by rw [hm.outer 13 (by kernel_rfl)]; rfl)⟩) ?_
              refine Walk.val (G := Is (.int .i64 (B : Int))) (stays_is _ _) rfl rfl (fun a w hm hd => ⟨wanted_plain rfl, st_cell rfl (fun _ => by kernel_rfl) (hd.at_ 2 rfl rfl rfl rfl) ((HD5.out.grown0 (GrownX.none2 hm.grow)).cell (j := 3) rfl)⟩) ?_
              refine Walk.val (G := Is (.int .i64 (B : Int))) (stays_is _ _) rfl rfl (fun a w hm hd => ⟨wanted_plain rfl, st_max0 rfl (hd.at_ 3 rfl rfl rfl rfl) (by omega)⟩) ?_
              refine Walk.val (G := Is (.int .i64 (2 ^ B))) (stays_is _ _) rfl rfl (fun a w hm hd => ⟨wanted_plain rfl, st_shlP rfl (hd.at_ 4 rfl rfl rfl rfl) (by omega)⟩) ?_
              refine Walk.val (G := Is (.int .i64 (2 ^ B - 1))) (stays_is _ _) rfl rfl (fun a w hm hd => ⟨wanted_plain rfl, st_subP rfl (hd.at_ 5 rfl rfl rfl rfl) (by omega)⟩) ?_
              refine Walk.val (G := Is (.int .i64 ((lowN nv B : Nat) : Int))) (stays_is _ _) rfl rfl (fun a w hm hd => ⟨wanted_plain rfl, st_andP rfl (hd.at_ 1 rfl rfl rfl rfl) (hd.at_ 6 rfl rfl rfl rfl) (by omega)⟩) ?_
              refine Walk.val (G := Is (.int .i64 ((lowN nv B : Nat) : Int))) (stays_is _ _) rfl rfl (fun a w hm hd => ⟨wanted_plain rfl, st_assign rfl (hd.at_ 7 rfl rfl rfl rfl)⟩) ?_
              intro a9 V9 hm9 hall
              have f86 : Is (.pointer (some ⟨gd, 2, none⟩)) (a9.eval (.tmp 86)) V9 := hall 0 _ _ rfl rfl
              have f87 : Is (.int .i64 nv) (a9.eval (.tmp 87)) V9 := hall 1 _ _ rfl rfl
              have f88 : Is (.pointer (some ⟨gd, 3, none⟩)) (a9.eval (.tmp 88)) V9 := hall 2 _ _ rfl rfl
              have f89 : Is (.int .i64 (B : Int)) (a9.eval (.tmp 89)) V9 := hall 3 _ _ rfl rfl
              have f90 : Is (.int .i64 (B : Int)) (a9.eval (.tmp 90)) V9 := hall 4 _ _ rfl rfl
              have f91 : Is (.int .i64 (2 ^ B)) (a9.eval (.tmp 91)) V9 := hall 5 _ _ rfl rfl
              have f92 : Is (.int .i64 (2 ^ B - 1)) (a9.eval (.tmp 92)) V9 := hall 6 _ _ rfl rfl
              have f93 : Is (.int .i64 ((lowN nv B : Nat) : Int)) (a9.eval (.tmp 93)) V9 := hall 7 _ _ rfl rfl
              have f14 : Is (.int .i64 ((lowN nv B : Nat) : Int)) (a9.eval (.tmp 14)) V9 := hall 8 _ _ rfl rfl
              have hfr := hm9.frame
              simp only [List.take_succ_cons, List.take_zero, List.filterMap_cons, List.filterMap_nil, List.foldl_cons, List.foldl_nil] at hfr
              have hgV9 := GrownX.none2 hm9.grow
              have f86 : a9.eval (.tmp 86) = _ := f86
              rw [f86] at hfr
              have f87 : a9.eval (.tmp 87) = _ := f87
              rw [f87] at hfr
              have f88 : a9.eval (.tmp 88) = _ := f88
              rw [f88] at hfr
              have f89 : a9.eval (.tmp 89) = _ := f89
              rw [f89] at hfr
              have f90 : a9.eval (.tmp 90) = _ := f90
              rw [f90] at hfr
              have f91 : a9.eval (.tmp 91) = _ := f91
              rw [f91] at hfr
              have f92 : a9.eval (.tmp 92) = _ := f92
              rw [f92] at hfr
              have f93 : a9.eval (.tmp 93) = _ := f93
              rw [f93] at hfr
              have f14 : a9.eval (.tmp 14) = _ := f14
              rw [f14] at hfr
              clear hall hm9
              have HD9 := Lib.hid (HD5.out.grown0 hgV9)
              have H9 := Lib.hid (H5.out.grown0 hgV9)
              clear hgV9 H5 HD5
              clear f86
              clear f87
              clear f88
              clear f89
              clear f90
              clear f91
              clear f92
              clear f93
              clear f14
              have e0 := HD9.out.cell (j := 0) rfl
              have e1 := HD9.out.cell (j := 1) rfl
              have e2 := HD9.out.cell (j := 2) rfl
              have e3 := HD9.out.cell (j := 3) rfl
              unfold wpList
              rw [hfr]
              clear hfr
              go_simp
              generalize lowN nv B = lo at *
              go_wp2_with fail
              refine (HEV.out V9 H9.out.rs).mono ?_
              rintro e w10 ⟨rfl, hrs, hg10⟩
              have H11 := Lib.hid (H9.out.even hrs hg10)
              clear hrs hg10 e0 e1 e2 e3
              go_wp2
              go_roundw
              case rel => exact ⟨m + 1, by omega, by go_num, by rw [← HPY.out, HYS.out]; exact H11.out⟩
              case measure => simp only [intOf]; omega
            · obtain ⟨hv, h1, h2⟩ := id hm0
              have hpd := HPD.out
              rw [putD2 hm0] at hpd
              simp only at hv h1 h2 hpd
              subst hv
              obtain ⟨B, rfl⟩ : ∃ B : Nat, bv = B := ⟨bv.toNat, by omega⟩
              rw [Int.toNat_natCast] at hpd
              have hB : B ≤ 8 := by omega
              have hp8 : 2 ^ B ≤ 256 := by have := tree8 hB; omega
              have hbk := tree_back nv B 1 HO.out.s HO.out.t (B := E) (by rw [HO.out.t256]; exact tree8 hB) (by have := HG1.out; rw [hpd] at this; exact this)
              have hrok := rdAt_ok HO.out.s (putD_back HO.out (by have := HG1.out; rw [HPD.out] at this; exact this))
              have HTR := Lib.hid (fun W (hn : gh ≠ gr ∧ vbr ≠ some gh) (hW : Rs W gr vbr (rdAt E X.s)) (hR : Row W gh th (chV X.t)) => rtree_at gr vbr (rdAt E X.s) gh th X.t 256 256 B W hW hrok hR HO.out.t256 HO.out.t hn (by omega) hp8 (by decide))
              rw [hbk] at HTR
              have HYS := Lib.hid hpd
              have HLO := Lib.hid (show (((1 * 2 ^ B + lowN nv B : Nat) : Int) - ((2 ^ B : Nat) : Int)) = ((lowN nv B : Nat) : Int) by rw [Nat.one_mul]; omega)
              generalize treeS X.s X.t nv B 1 = SL at *
              clear hm0 h1 h2 hbk hrok hpd hp8
              go_wp2
              refine wp_region_walk3 9 [] dis_nil (by kernel_rfl) (by kernel_rfl) (by kernel_rfl) ?_
              simp only [List.take_succ_cons, List.take_zero, List.drop_succ_cons, List.drop_zero]
              refine Walk.val (G := Is (.pointer (some ⟨gd, 2, none⟩))) (stays_is _ _) rfl rfl (fun a w hm hd => ⟨wanted_plain rfl, st_fieldD2 rfl (by rw [hm.outer 13 (by kernel_rfl)]; rfl)⟩) ?_
              refine Walk.val (G := Is (.int .i64 nv)) (stays_is _ _) rfl rfl (fun a w hm hd => ⟨wanted_plain rfl, st_cell rfl (fun _ => by kernel_rfl) (hd.at_ 0 rfl rfl rfl rfl) ((HD5.out.grown0 (GrownX.none2 hm.grow)).cell (j := 2) rfl)⟩) ?_
              refine Walk.val (G := Is (.pointer (some ⟨gd, 3, none⟩))) (stays_is _ _) rfl rfl (fun a w hm hd => ⟨wanted_plain rfl, st_fieldD3 rfl (by rw [hm.outer 13 (by kernel_rfl)]; rfl)⟩) ?_
              refine Walk.val (G := Is (.int .i64 (B : Int))) (stays_is _ _) rfl rfl (fun a w hm hd => ⟨wanted_plain rfl, st_cell rfl (fun _ => by kernel_rfl) (hd.at_ 2 rfl rfl rfl rfl) ((HD5.out.grown0 (GrownX.none2 hm.grow)).cell (j := 3) rfl)⟩) ?_
              refine Walk.val (G := Is (.int .i64 (B : Int))) (stays_is _ _) rfl rfl (fun a w hm hd => ⟨wanted_plain rfl, st_max0 rfl (hd.at_ 3 rfl rfl rfl rfl) (by omega)⟩) ?_
              refine Walk.val (G := Is (.int .i64 (2 ^ B))) (stays_is _ _) rfl rfl (fun a w hm hd => ⟨wanted_plain rfl, st_shlP rfl (hd.at_ 4 rfl rfl rfl rfl) (by omega)⟩) ?_
              refine Walk.val (G := Is (.int .i64 (2 ^ B - 1))) (stays_is _ _) rfl rfl (fun a w hm hd => ⟨wanted_plain rfl, st_subP rfl (hd.at_ 5 rfl rfl rfl rfl) (by omega)⟩) ?_
              refine Walk.val (G := Is (.int .i64 ((lowN nv B : Nat) : Int))) (stays_is _ _) rfl rfl (fun a w hm hd => ⟨wanted_plain rfl, st_andP rfl (hd.at_ 1 rfl rfl rfl rfl) (hd.at_ 6 rfl rfl rfl rfl) (by omega)⟩) ?_
              refine Walk.val (G := Is (.int .i64 ((lowN nv B : Nat) : Int))) (stays_is _ _) rfl rfl (fun a w hm hd => ⟨wanted_plain rfl, st_assign rfl (hd.at_ 7 rfl rfl rfl rfl)⟩) ?_
              intro a9 V9 hm9 hall
              have f86 : Is (.pointer (some ⟨gd, 2, none⟩)) (a9.eval (.tmp 86)) V9 := hall 0 _ _ rfl rfl
              have f87 : Is (.int .i64 nv) (a9.eval (.tmp 87)) V9 := hall 1 _ _ rfl rfl
              have f88 : Is (.pointer (some ⟨gd, 3, none⟩)) (a9.eval (.tmp 88)) V9 := hall 2 _ _ rfl rfl
              have f89 : Is (.int .i64 (B : Int)) (a9.eval (.tmp 89)) V9 := hall 3 _ _ rfl rfl
              have f90 : Is (.int .i64 (B : Int)) (a9.eval (.tmp 90)) V9 := hall 4 _ _ rfl rfl
              have f91 : Is (.int .i64 (2 ^ B)) (a9.eval (.tmp 91)) V9 := hall 5 _ _ rfl rfl
              have f92 : Is (.int .i64 (2 ^ B - 1)) (a9.eval (.tmp 92)) V9 := hall 6 _ _ rfl rfl
              have f93 : Is (.int .i64 ((lowN nv B : Nat) : Int)) (a9.eval (.tmp 93)) V9 := hall 7 _ _ rfl rfl
              have f14 : Is (.int .i64 ((lowN nv B : Nat) : Int)) (a9.eval (.tmp 14)) V9 := hall 8 _ _ rfl rfl
              have hfr := hm9.frame
              simp only [List.take_succ_cons, List.take_zero, List.filterMap_cons, List.filterMap_nil, List.foldl_cons, List.foldl_nil] at hfr
              have hgV9 := GrownX.none2 hm9.grow
              have f86 : a9.eval (.tmp 86) = _ := f86
              rw [f86] at hfr
              have f87 : a9.eval (.tmp 87) = _ := f87
              rw [f87] at hfr
              have f88 : a9.eval (.tmp 88) = _ := f88
              rw [f88] at hfr
              have f89 : a9.eval (.tmp 89) = _ := f89
              rw [f89] at hfr
              have f90 : a9.eval (.tmp 90) = _ := f90
              rw [f90] at hfr
              have f91 : a9.eval (.tmp 91) = _ := f91
              rw [f91] at hfr
              have f92 : a9.eval (.tmp 92) = _ := f92
              rw [f92] at hfr
              have f93 : a9.eval (.tmp 93) = _ := f93
              rw [f93] at hfr
              have f14 : a9.eval (.tmp 14) = _ := f14
              rw [f14] at hfr
              clear hall hm9
              have HD9 := Lib.hid (HD5.out.grown0 hgV9)
              have H9 := Lib.hid (H5.out.grown0 hgV9)
              clear hgV9 H5 HD5
              clear f86
              clear f87
              clear f88
              clear f89
              clear f90
              clear f91
              clear f92
              clear f93
              clear f14
              have e0 := HD9.out.cell (j := 0) rfl
              have e1 := HD9.out.cell (j := 1) rfl
              have e2 := HD9.out.cell (j := 2) rfl
              have e3 := HD9.out.cell (j := 3) rfl
              unfold wpList
              rw [hfr]
              clear hfr
              go_simp
              go_wp2_with fail
              refine (HTR.out V9 ⟨H9.out.ne.2.1, H9.out.ne.2.2.2.2⟩ H9.out.rs H9.out.rt).mono ?_
              rintro e w10 ⟨rfl, hrs, hrt, hn10⟩
              have H11 := Lib.hid (H9.out.tree hrs hrt hn10)
              clear hrs hrt hn10 e0 e1 e2 e3
              rw [HLO.out]
              generalize lowN nv B = lo at *
              go_wp2
              go_roundw
              case rel => exact ⟨m + 1, by omega, by go_num, by rw [← HPY.out, HYS.out]; exact H11.out⟩
              case measure => simp only [intOf]; omega
            -- END CASES
        · obtain rfl : m = k := by omega
          have hdk2 : decide ((m : Int) < (m : Int)) = false := by simp
          rw [List.take_of_length_le (by rw [HLN.out]; exact Nat.le_refl _), HFIN.out] at HH
          have HER := Lib.hid (err_at gr vbr _ wr HH.out.rs HWD.out)
          have HLF := Lib.hid (left_at gr vbr _ wr HH.out.rs)
          have HGG := Lib.hid HH.out.grow
          clear HH
          go_wp2_with fail
          refine HER.out.mono ?_
          rintro e w6b ⟨rfl, hw6⟩
          obtain rfl := hw6.symm
          go_wp2_with fail
          refine HLF.out.mono ?_
          rintro e w6b ⟨rfl, hw6⟩
          obtain rfl := hw6.symm
          go_wp2_with fail
          refine (awake_any wr).mono ?_
          rintro e w7 ⟨rfl, hg7⟩
          go_wp2
          go_ret
          exact ⟨rfl, HGG.out.trans hg7⟩
end Go.Proofs.Ytlmdjkahbejcdaa
