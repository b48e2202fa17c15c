/-
  The document's own Quarter of layer 5 over this program.
-/
import Derived.Test.YtmhpnddelebjdaaRcSmall
import Derived.Test.YtmhpnddelebjdaaStrAllQ
import Derived.StillTailTactics
namespace Go.Proofs.Ytmhpnddelebjdaa
open Go.RowKit

def wn (l : List W32) : List Nat := l.map BitVec.toNat
theorem wn_len (l : List W32) : (wn l).length = l.length := by simp [wn]
theorem wn_at (l : List W32) (k : Nat) (h : k < l.length) : (wn l).getD k 0 = (l.getD k 0).toNat := by simp [wn, List.getElem?_eq_getElem h]
theorem own_emptyI (w : World) (base : Nat) (hb : base ≤ w.heap.size) : (w.alloc (.cells #[] 3)).ownsRow base 3 1 (.slice (some ⟨w.heap.size, 0, none⟩) 0 0) 0 [] :=
  ⟨rfl, .inr ⟨w.heap.size, 0, #[], rfl, hb, heap_alloc_last w _, Nat.le_refl _, Nat.zero_le _, rfl, rfl⟩⟩

/-- The row in the midst of a quarter: what stands at the four places, the others as they were. -/
structure Qt (w : World) (g : Nat) (s : List W32) (a b c d : Nat) (q : Q4) (W : World) : Prop where
  cs : ∃ cs : List Value, Row W g 3 cs ∧ cs[a]? = some (.int .i64 (q.a.toNat : Int)) ∧ cs[b]? = some (.int .i64 (q.b.toNat : Int)) ∧ cs[c]? = some (.int .i64 (q.c.toNat : Int)) ∧ cs[d]? = some (.int .i64 (q.d.toNat : Int)) ∧
    ∀ j, j < s.length → j ≠ a → j ≠ b → j ≠ c → j ≠ d → cs[j]? = some (.int .i64 ((s.getD j 0).toNat : Int))
  grow : w.grownBy W none
  base : w.heap.size ≤ g
structure Apart (a b c d : Nat) : Prop where
  ab : a ≠ b
  ac : a ≠ c
  ad : a ≠ d
  bc : b ≠ c
  bd : b ≠ d
  cd : c ≠ d
section
variable {w W : World} {g a b c d : Nat} {s : List W32} {xa xb xc xd : W32}
theorem Qt.drew {q : Q4} (h : Qt w g s a b c d q W) : Qt w g s a b c d q W.drew := ⟨h.cs, grown_drew h.grow, h.base⟩
theorem Qt.cellA (h : Qt w g s a b c d ⟨xa, xb, xc, xd⟩ W) : W.cell? ⟨g, a, none⟩ = some (.int .i64 (xa.toNat : Int)) ∧ W.frozen? ⟨g, a, none⟩ = false := by
  obtain ⟨cs, hr, ha, hb, hc, hd, _⟩ := h.cs
  exact ⟨hr.cell ha, hr.frozen a⟩
theorem Qt.cellB (h : Qt w g s a b c d ⟨xa, xb, xc, xd⟩ W) : W.cell? ⟨g, b, none⟩ = some (.int .i64 (xb.toNat : Int)) ∧ W.frozen? ⟨g, b, none⟩ = false := by
  obtain ⟨cs, hr, ha, hb, hc, hd, _⟩ := h.cs
  exact ⟨hr.cell hb, hr.frozen b⟩
theorem Qt.cellC (h : Qt w g s a b c d ⟨xa, xb, xc, xd⟩ W) : W.cell? ⟨g, c, none⟩ = some (.int .i64 (xc.toNat : Int)) ∧ W.frozen? ⟨g, c, none⟩ = false := by
  obtain ⟨cs, hr, ha, hb, hc, hd, _⟩ := h.cs
  exact ⟨hr.cell hc, hr.frozen c⟩
theorem Qt.cellD (h : Qt w g s a b c d ⟨xa, xb, xc, xd⟩ W) : W.cell? ⟨g, d, none⟩ = some (.int .i64 (xd.toNat : Int)) ∧ W.frozen? ⟨g, d, none⟩ = false := by
  obtain ⟨cs, hr, ha, hb, hc, hd, _⟩ := h.cs
  exact ⟨hr.cell hd, hr.frozen d⟩
theorem get_set_other {cs : List Value} {i j : Nat} {u v : Value} (h : cs[j]? = some u) (hne : i ≠ j) : (cs.set i v)[j]? = some u := by rw [List.getElem?_set_ne hne]; exact h
theorem get_set_same {cs : List Value} {i : Nat} {u v : Value} (h : cs[i]? = some u) : (cs.set i v)[i]? = some v := by
  have hlt := (List.getElem?_eq_some_iff.1 h).1
  rw [List.getElem?_set_self hlt]
theorem Qt.setA (hp : Apart a b c d) (h : Qt w g s a b c d ⟨xa, xb, xc, xd⟩ W) (y : W32) : Qt w g s a b c d ⟨y, xb, xc, xd⟩ (W.setCell ⟨g, a, none⟩ (.int .i64 (y.toNat : Int))) := by
  obtain ⟨⟨cs, hr, ha, hb, hc, hd, hx⟩, hg, hbase⟩ := h
  exact ⟨⟨cs.set a _, hr.set a _, get_set_same ha, get_set_other hb hp.ab, get_set_other hc hp.ac, get_set_other hd hp.ad, fun j hj ja jb jc jd => get_set_other (hx j hj ja jb jc jd) (ja.symm)⟩, grown_own hg (grown_set W g a _) hbase, hbase⟩
theorem Qt.setB (hp : Apart a b c d) (h : Qt w g s a b c d ⟨xa, xb, xc, xd⟩ W) (y : W32) : Qt w g s a b c d ⟨xa, y, xc, xd⟩ (W.setCell ⟨g, b, none⟩ (.int .i64 (y.toNat : Int))) := by
  obtain ⟨⟨cs, hr, ha, hb, hc, hd, hx⟩, hg, hbase⟩ := h
  exact ⟨⟨cs.set b _, hr.set b _, get_set_other ha (hp.ab.symm), get_set_same hb, get_set_other hc hp.bc, get_set_other hd hp.bd, fun j hj ja jb jc jd => get_set_other (hx j hj ja jb jc jd) (jb.symm)⟩, grown_own hg (grown_set W g b _) hbase, hbase⟩
theorem Qt.setC (hp : Apart a b c d) (h : Qt w g s a b c d ⟨xa, xb, xc, xd⟩ W) (y : W32) : Qt w g s a b c d ⟨xa, xb, y, xd⟩ (W.setCell ⟨g, c, none⟩ (.int .i64 (y.toNat : Int))) := by
  obtain ⟨⟨cs, hr, ha, hb, hc, hd, hx⟩, hg, hbase⟩ := h
  exact ⟨⟨cs.set c _, hr.set c _, get_set_other ha (hp.ac.symm), get_set_other hb (hp.bc.symm), get_set_same hc, get_set_other hd hp.cd, fun j hj ja jb jc jd => get_set_other (hx j hj ja jb jc jd) (jc.symm)⟩, grown_own hg (grown_set W g c _) hbase, hbase⟩
theorem Qt.setD (hp : Apart a b c d) (h : Qt w g s a b c d ⟨xa, xb, xc, xd⟩ W) (y : W32) : Qt w g s a b c d ⟨xa, xb, xc, y⟩ (W.setCell ⟨g, d, none⟩ (.int .i64 (y.toNat : Int))) := by
  obtain ⟨⟨cs, hr, ha, hb, hc, hd, hx⟩, hg, hbase⟩ := h
  exact ⟨⟨cs.set d _, hr.set d _, get_set_other ha (hp.ad.symm), get_set_other hb (hp.bd.symm), get_set_other hc (hp.cd.symm), get_set_same hd, fun j hj ja jb jc jd => get_set_other (hx j hj ja jb jc jd) (jd.symm)⟩, grown_own hg (grown_set W g d _) hbase, hbase⟩
theorem qAt_get (s : List W32) (a b c d : Nat) (q : Q4) (hp : Apart a b c d) (ha : a < s.length) (hb : b < s.length) (hc : c < s.length) (hd : d < s.length) (h : qr ⟨s.getD a 0, s.getD b 0, s.getD c 0, s.getD d 0⟩ = q) (j : Nat) :
    (qAt s a b c d).getD j 0 = if j = d then q.d else if j = c then q.c else if j = b then q.b else if j = a then q.a else s.getD j 0 := by
  have hab := hp.ab
  have hac := hp.ac
  have had := hp.ad
  have hbc := hp.bc
  have hbd := hp.bd
  have hcd := hp.cd
  rw [qAt_of s a b c d q h]
  simp only [List.getD_eq_getElem?_getD, List.getElem?_set, List.length_set]
  by_cases e1 : j = d
  · subst e1; simp [hd]
  · rw [if_neg (Ne.symm e1), if_neg e1]
    by_cases e2 : j = c
    · subst e2; simp [hc]
    · rw [if_neg (Ne.symm e2), if_neg e2]
      by_cases e3 : j = b
      · subst e3; simp [hb]
      · rw [if_neg (Ne.symm e3), if_neg e3]
        by_cases e4 : j = a
        · subst e4; simp [ha]
        · rw [if_neg (Ne.symm e4), if_neg e4]
theorem Qt.done (hp : Apart a b c d) (ha : a < s.length) (hb : b < s.length) (hc : c < s.length) (hd : d < s.length) {q : Q4} (h : Qt w g s a b c d q W) (hq : qr ⟨s.getD a 0, s.getD b 0, s.getD c 0, s.getD d 0⟩ = q) (cap : Nat) (hcap : s.length ≤ cap) (hm : cap ≤ maxLen) :
    Rd W (.slice (some ⟨g, 0, none⟩) s.length cap) (intsV (wn (qAt s a b c d))) := by
  obtain ⟨⟨cs, hr, xa, xb, xc, xd, hx⟩, hg, hbase⟩ := h
  have hlen : (intsV (wn (qAt s a b c d))).length = s.length := by rw [intsV_len, wn_len, qAt_len]
  refine ⟨_, cap, by rw [hlen], by rw [hlen]; exact hcap, hm, fun _ => ⟨_, rfl, fun j u hu => ?_⟩⟩
  have hj : j < s.length := by
    have := (List.getElem?_eq_some_iff.1 hu).1
    omega
  rw [intsV_at _ j (by rw [wn_len, qAt_len]; exact hj), wn_at _ _ (by rw [qAt_len]; exact hj), qAt_get s a b c d q hp ha hb hc hd hq j] at hu
  have hadd : (⟨g, 0, none⟩ : Addr).add j = ⟨g, j, none⟩ := by unfold Addr.add; split <;> simp_all
  rw [hadd, ← hu]
  refine hr.cell ?_
  by_cases e1 : j = d
  · rw [if_pos e1, e1]; exact xd
  · rw [if_neg e1]
    by_cases e2 : j = c
    · rw [if_pos e2, e2]; exact xc
    · rw [if_neg e2]
      by_cases e3 : j = b
      · rw [if_pos e3, e3]; exact xb
      · rw [if_neg e3]
        by_cases e4 : j = a
        · rw [if_pos e4, e4]; exact xa
        · rw [if_neg e4]; exact hx j hj e4 e3 e2 e1
end
/-- What Quarter answers: a row of the call's own. -/
def OutN (l : List Nat) (w : World) (e : Ending) (w' : World) : Prop :=
  ∃ g cap, e = .returned (.slice (some ⟨g, 0, none⟩) l.length cap) ∧ Rd w' (.slice (some ⟨g, 0, none⟩) l.length cap) (intsV l) ∧ w.grownBy w' none ∧ w.heap.size ≤ g

set_option maxRecDepth 4000 in
set_option maxHeartbeats 8000000 in
theorem rquarter_any (v : Value) (s : List W32) (a b c d : Nat) (hp : Apart a b c d) (ha : a < s.length) (hb : b < s.length) (hc : c < s.length) (hd : d < s.length) (hs : s.length ≤ 16) (w : World) (hr : Rd w v (intsV (wn s))) :
    Calls Try.prog 11 #[v, .int .i64 (a : Int), .int .i64 (b : Int), .int .i64 (c : Int), .int .i64 (d : Int)] w (OutN (wn (qAt s a b c d)) w) := by
  obtain ⟨L, hL⟩ : ∃ L, L = s.length := ⟨_, rfl⟩
  obtain ⟨A, cc, rfl⟩ := hr.form
  rw [intsV_len, wn_len, ← hL] at hr ⊢
  have HR := Lib.hid hr
  have HL := Lib.hid hL
  have HP := Lib.hid hp
  have HIN := Lib.hid (And.intro ha (And.intro hb (And.intro hc hd)))
  have ia : (a : Int) < (L : Int) := by omega
  have ib : (b : Int) < (L : Int) := by omega
  have ic : (c : Int) < (L : Int) := by omega
  have id_ : (d : Int) < (L : Int) := by omega
  have hL16 : L ≤ 16 := by omega
  clear hr hL hp ha hb hc hd hs
  go_enter Try.func11, Try.ntmps11
  go_wp2_with (at_builtin; refine wpList_append_ints _ rfl _ _ rfl w.heap.size _ 0 [] rfl (own_emptyI w _ (Nat.le_refl _)) _ (wn s) rfl (HR.out.grown0 (grown_alloc (grown_refl _ none) _)) ?_ ?_ ?_)
  · rw [wn_len, ← HL.out]; omega
  · simp
  intro v1 w1 ho1 hg1 _
  rw [wn_len, ← HL.out] at ho1
  have hgw : w.grownBy w1 none := grown_new (grown_alloc (grown_refl w none) _) hg1 (fun x e => by cases e; exact Nat.le_refl _)
  have hne : L ≠ 0 := by omega
  obtain ⟨hlen, ⟨rfl, h0⟩ | ⟨g, cap, cur, rfl, hbase, hgc, hnc, hcm, hsz, htk⟩⟩ := ho1
  · exact absurd h0 hne
  have hcl : ∀ j, j < s.length → cur.toList[j]? = some (.int .i64 ((s.getD j 0).toNat : Int)) := fun j hj => by
    have h1 := intsV_at (wn s) j (by rw [wn_len]; exact hj)
    rw [wn_at s j hj] at h1
    have h2 : (cur.toList.take (L * 1))[j]? = some (.int .i64 ((s.getD j 0).toNat : Int)) := by rw [htk]; exact h1
    rw [List.getElem?_take] at h2
    split at h2
    · exact h2
    · cases h2
  obtain ⟨ha, hb, hc, hd⟩ := HIN.out
  obtain ⟨xa, hxa⟩ : ∃ x, s.getD a 0 = x := ⟨_, rfl⟩
  obtain ⟨xb, hxb⟩ : ∃ x, s.getD b 0 = x := ⟨_, rfl⟩
  obtain ⟨xc, hxc⟩ : ∃ x, s.getD c 0 = x := ⟨_, rfl⟩
  obtain ⟨xd, hxd⟩ : ∃ x, s.getD d 0 = x := ⟨_, rfl⟩
  have H0 := Lib.hid (show Qt w g s a b c d ⟨xa, xb, xc, xd⟩ w1 from ⟨⟨cur.toList, by simpa [Row] using hgc, hxa ▸ hcl a ha, hxb ▸ hcl b hb, hxc ▸ hcl c hc, hxd ▸ hcl d hd, fun j hj _ _ _ _ => hcl j hj⟩, hgw, hbase⟩)
  have HX := Lib.hid (And.intro hxa (And.intro hxb (And.intro hxc hxd)))
  have HCAP := Lib.hid (And.intro hnc hcm)
  have hnc' : L ≤ cap := hnc
  clear hcl hgw hgc hnc hcm hsz htk hlen hne ha hb hc hd hxa hxb hxc hxd hbase hg1 HR
  have ada : (⟨g, 0, none⟩ : Addr).add a = ⟨g, a, none⟩ := by unfold Addr.add; split <;> simp_all
  have adb : (⟨g, 0, none⟩ : Addr).add b = ⟨g, b, none⟩ := by unfold Addr.add; split <;> simp_all
  have adc : (⟨g, 0, none⟩ : Addr).add c = ⟨g, c, none⟩ := by unfold Addr.add; split <;> simp_all
  have add_ : (⟨g, 0, none⟩ : Addr).add d = ⟨g, d, none⟩ := by unfold Addr.add; split <;> simp_all
  obtain ⟨W0, hW0⟩ : ∃ W, W = w1 := ⟨_, rfl⟩
  subst hW0
  go_wp2
  obtain ⟨y0, hy0⟩ : ∃ y, y = xa + xb := ⟨_, rfl⟩
  obtain ⟨N, hN⟩ : ∃ N, N = xa.toNat + xb.toNat := ⟨_, rfl⟩
  have hw : IntKind.i64.wrap ((xa.toNat : Int) + (xb.toNat : Int)) = (N : Int) := by
    have := xa.isLt
    have := xb.isLt
    rw [IntKind.wrap_i64, hN]
    omega
  have HC1 := Lib.hid (fun V => (show Calls Try.prog 19 #[.int .i64 (N : Int)] V fun e w' => e = .returned (.int .i64 (y0.toNat : Int)) ∧ w' = V from (rword_any N (by have := xa.isLt; have := xb.isLt; omega) V).mono fun e w' h => ⟨by rw [h.1, hy0, BitVec.toNat_add, hN], h.2⟩))
  have HE0 := Lib.hid hy0
  clear hy0 hN
  refine wp_region_still_tail 12 (by kernel_rfl) (by kernel_rfl) ?_
  change wpStill _ _ W0.drew (fun a' => wpList _ _ _ _ a' W0.drew) _ _
  have HV := Lib.hid H0.out.drew
  clear H0
  generalize W0.drew = V0 at *
  obtain ⟨kp, fp⟩ := HV.out.cellA
  obtain ⟨kq, fq⟩ := HV.out.cellB
  simp only [List.take_succ_cons, List.take_zero, List.drop_succ_cons, List.drop_zero]
  repeat still_step
  still_call (HC1.out V0)
  repeat still_step
  refine wpStill_nil ?_
  have H1 := Lib.hid (HV.out.setA HP.out y0)
  clear HV HC1 hw
  go_wp2
  clear kp fp kq fq
  generalize hW : V0.setCell ⟨g, a, none⟩ (.int .i64 (y0.toNat : Int)) = W1 at *
  clear hW
  obtain ⟨y1, hy1⟩ : ∃ y, y = rl 16 (xd ^^^ y0) := ⟨_, rfl⟩
  obtain ⟨z, hz⟩ : ∃ z, z = xd ^^^ y0 := ⟨_, rfl⟩
  have HC1 := Lib.hid (fun V => (show Calls Try.prog 21 #[.int .i64 (xd.toNat : Int), .int .i64 (y0.toNat : Int)] V fun e w' => e = .returned (.int .i64 (z.toNat : Int)) ∧ w' = V from (rxor_any xd y0 V).mono fun e w' h => ⟨by rw [h.1, hz], h.2⟩))
  have HC2 := Lib.hid (fun V => (show Calls Try.prog 20 #[.int .i64 (z.toNat : Int), .int .i64 16] V fun e w' => e = .returned (.int .i64 (y1.toNat : Int)) ∧ w' = V from (rturn_any z 16 (by decide) V).mono fun e w' h => ⟨by rw [h.1, hy1, hz], h.2⟩))
  have HE1 := Lib.hid hy1
  clear hy1 hz
  refine wp_region_still_tail 12 (by kernel_rfl) (by kernel_rfl) ?_
  change wpStill _ _ W1.drew (fun a' => wpList _ _ _ _ a' W1.drew) _ _
  have HV := Lib.hid H1.out.drew
  clear H1
  generalize W1.drew = V1 at *
  obtain ⟨kp, fp⟩ := HV.out.cellD
  obtain ⟨kq, fq⟩ := HV.out.cellA
  simp only [List.take_succ_cons, List.take_zero, List.drop_succ_cons, List.drop_zero]
  repeat still_step
  still_call (HC1.out V1)
  repeat still_step
  still_call (HC2.out V1)
  repeat still_step
  refine wpStill_nil ?_
  have H2 := Lib.hid (HV.out.setD HP.out y1)
  clear HV HC1 HC2
  go_wp2
  clear kp fp kq fq
  generalize hW : V1.setCell ⟨g, d, none⟩ (.int .i64 (y1.toNat : Int)) = W2 at *
  clear hW
  obtain ⟨y2, hy2⟩ : ∃ y, y = xc + y1 := ⟨_, rfl⟩
  obtain ⟨N, hN⟩ : ∃ N, N = xc.toNat + y1.toNat := ⟨_, rfl⟩
  have hw : IntKind.i64.wrap ((xc.toNat : Int) + (y1.toNat : Int)) = (N : Int) := by
    have := xc.isLt
    have := y1.isLt
    rw [IntKind.wrap_i64, hN]
    omega
  have HC1 := Lib.hid (fun V => (show Calls Try.prog 19 #[.int .i64 (N : Int)] V fun e w' => e = .returned (.int .i64 (y2.toNat : Int)) ∧ w' = V from (rword_any N (by have := xc.isLt; have := y1.isLt; omega) V).mono fun e w' h => ⟨by rw [h.1, hy2, BitVec.toNat_add, hN], h.2⟩))
  have HE2 := Lib.hid hy2
  clear hy2 hN
  refine wp_region_still_tail 12 (by kernel_rfl) (by kernel_rfl) ?_
  change wpStill _ _ W2.drew (fun a' => wpList _ _ _ _ a' W2.drew) _ _
  have HV := Lib.hid H2.out.drew
  clear H2
  generalize W2.drew = V2 at *
  obtain ⟨kp, fp⟩ := HV.out.cellC
  obtain ⟨kq, fq⟩ := HV.out.cellD
  simp only [List.take_succ_cons, List.take_zero, List.drop_succ_cons, List.drop_zero]
  repeat still_step
  still_call (HC1.out V2)
  repeat still_step
  refine wpStill_nil ?_
  have H3 := Lib.hid (HV.out.setC HP.out y2)
  clear HV HC1 hw
  go_wp2
  clear kp fp kq fq
  generalize hW : V2.setCell ⟨g, c, none⟩ (.int .i64 (y2.toNat : Int)) = W3 at *
  clear hW
  obtain ⟨y3, hy3⟩ : ∃ y, y = rl 12 (xb ^^^ y2) := ⟨_, rfl⟩
  obtain ⟨z, hz⟩ : ∃ z, z = xb ^^^ y2 := ⟨_, rfl⟩
  have HC1 := Lib.hid (fun V => (show Calls Try.prog 21 #[.int .i64 (xb.toNat : Int), .int .i64 (y2.toNat : Int)] V fun e w' => e = .returned (.int .i64 (z.toNat : Int)) ∧ w' = V from (rxor_any xb y2 V).mono fun e w' h => ⟨by rw [h.1, hz], h.2⟩))
  have HC2 := Lib.hid (fun V => (show Calls Try.prog 20 #[.int .i64 (z.toNat : Int), .int .i64 12] V fun e w' => e = .returned (.int .i64 (y3.toNat : Int)) ∧ w' = V from (rturn_any z 12 (by decide) V).mono fun e w' h => ⟨by rw [h.1, hy3, hz], h.2⟩))
  have HE3 := Lib.hid hy3
  clear hy3 hz
  refine wp_region_still_tail 12 (by kernel_rfl) (by kernel_rfl) ?_
  change wpStill _ _ W3.drew (fun a' => wpList _ _ _ _ a' W3.drew) _ _
  have HV := Lib.hid H3.out.drew
  clear H3
  generalize W3.drew = V3 at *
  obtain ⟨kp, fp⟩ := HV.out.cellB
  obtain ⟨kq, fq⟩ := HV.out.cellC
  simp only [List.take_succ_cons, List.take_zero, List.drop_succ_cons, List.drop_zero]
  repeat still_step
  still_call (HC1.out V3)
  repeat still_step
  still_call (HC2.out V3)
  repeat still_step
  refine wpStill_nil ?_
  have H4 := Lib.hid (HV.out.setB HP.out y3)
  clear HV HC1 HC2
  go_wp2
  clear kp fp kq fq
  generalize hW : V3.setCell ⟨g, b, none⟩ (.int .i64 (y3.toNat : Int)) = W4 at *
  clear hW
  obtain ⟨y4, hy4⟩ : ∃ y, y = y0 + y3 := ⟨_, rfl⟩
  obtain ⟨N, hN⟩ : ∃ N, N = y0.toNat + y3.toNat := ⟨_, rfl⟩
  have hw : IntKind.i64.wrap ((y0.toNat : Int) + (y3.toNat : Int)) = (N : Int) := by
    have := y0.isLt
    have := y3.isLt
    rw [IntKind.wrap_i64, hN]
    omega
  have HC1 := Lib.hid (fun V => (show Calls Try.prog 19 #[.int .i64 (N : Int)] V fun e w' => e = .returned (.int .i64 (y4.toNat : Int)) ∧ w' = V from (rword_any N (by have := y0.isLt; have := y3.isLt; omega) V).mono fun e w' h => ⟨by rw [h.1, hy4, BitVec.toNat_add, hN], h.2⟩))
  have HE4 := Lib.hid hy4
  clear hy4 hN
  refine wp_region_still_tail 12 (by kernel_rfl) (by kernel_rfl) ?_
  change wpStill _ _ W4.drew (fun a' => wpList _ _ _ _ a' W4.drew) _ _
  have HV := Lib.hid H4.out.drew
  clear H4
  generalize W4.drew = V4 at *
  obtain ⟨kp, fp⟩ := HV.out.cellA
  obtain ⟨kq, fq⟩ := HV.out.cellB
  simp only [List.take_succ_cons, List.take_zero, List.drop_succ_cons, List.drop_zero]
  repeat still_step
  still_call (HC1.out V4)
  repeat still_step
  refine wpStill_nil ?_
  have H5 := Lib.hid (HV.out.setA HP.out y4)
  clear HV HC1 hw
  go_wp2
  clear kp fp kq fq
  generalize hW : V4.setCell ⟨g, a, none⟩ (.int .i64 (y4.toNat : Int)) = W5 at *
  clear hW
  obtain ⟨y5, hy5⟩ : ∃ y, y = rl 8 (y1 ^^^ y4) := ⟨_, rfl⟩
  obtain ⟨z, hz⟩ : ∃ z, z = y1 ^^^ y4 := ⟨_, rfl⟩
  have HC1 := Lib.hid (fun V => (show Calls Try.prog 21 #[.int .i64 (y1.toNat : Int), .int .i64 (y4.toNat : Int)] V fun e w' => e = .returned (.int .i64 (z.toNat : Int)) ∧ w' = V from (rxor_any y1 y4 V).mono fun e w' h => ⟨by rw [h.1, hz], h.2⟩))
  have HC2 := Lib.hid (fun V => (show Calls Try.prog 20 #[.int .i64 (z.toNat : Int), .int .i64 8] V fun e w' => e = .returned (.int .i64 (y5.toNat : Int)) ∧ w' = V from (rturn_any z 8 (by decide) V).mono fun e w' h => ⟨by rw [h.1, hy5, hz], h.2⟩))
  have HE5 := Lib.hid hy5
  clear hy5 hz
  refine wp_region_still_tail 12 (by kernel_rfl) (by kernel_rfl) ?_
  change wpStill _ _ W5.drew (fun a' => wpList _ _ _ _ a' W5.drew) _ _
  have HV := Lib.hid H5.out.drew
  clear H5
  generalize W5.drew = V5 at *
  obtain ⟨kp, fp⟩ := HV.out.cellD
  obtain ⟨kq, fq⟩ := HV.out.cellA
  simp only [List.take_succ_cons, List.take_zero, List.drop_succ_cons, List.drop_zero]
  repeat still_step
  still_call (HC1.out V5)
  repeat still_step
  still_call (HC2.out V5)
  repeat still_step
  refine wpStill_nil ?_
  have H6 := Lib.hid (HV.out.setD HP.out y5)
  clear HV HC1 HC2
  go_wp2
  clear kp fp kq fq
  generalize hW : V5.setCell ⟨g, d, none⟩ (.int .i64 (y5.toNat : Int)) = W6 at *
  clear hW
  obtain ⟨y6, hy6⟩ : ∃ y, y = y2 + y5 := ⟨_, rfl⟩
  obtain ⟨N, hN⟩ : ∃ N, N = y2.toNat + y5.toNat := ⟨_, rfl⟩
  have hw : IntKind.i64.wrap ((y2.toNat : Int) + (y5.toNat : Int)) = (N : Int) := by
    have := y2.isLt
    have := y5.isLt
    rw [IntKind.wrap_i64, hN]
    omega
  have HC1 := Lib.hid (fun V => (show Calls Try.prog 19 #[.int .i64 (N : Int)] V fun e w' => e = .returned (.int .i64 (y6.toNat : Int)) ∧ w' = V from (rword_any N (by have := y2.isLt; have := y5.isLt; omega) V).mono fun e w' h => ⟨by rw [h.1, hy6, BitVec.toNat_add, hN], h.2⟩))
  have HE6 := Lib.hid hy6
  clear hy6 hN
  refine wp_region_still_tail 12 (by kernel_rfl) (by kernel_rfl) ?_
  change wpStill _ _ W6.drew (fun a' => wpList _ _ _ _ a' W6.drew) _ _
  have HV := Lib.hid H6.out.drew
  clear H6
  generalize W6.drew = V6 at *
  obtain ⟨kp, fp⟩ := HV.out.cellC
  obtain ⟨kq, fq⟩ := HV.out.cellD
  simp only [List.take_succ_cons, List.take_zero, List.drop_succ_cons, List.drop_zero]
  repeat still_step
  still_call (HC1.out V6)
  repeat still_step
  refine wpStill_nil ?_
  have H7 := Lib.hid (HV.out.setC HP.out y6)
  clear HV HC1 hw
  go_wp2
  clear kp fp kq fq
  generalize hW : V6.setCell ⟨g, c, none⟩ (.int .i64 (y6.toNat : Int)) = W7 at *
  clear hW
  obtain ⟨y7, hy7⟩ : ∃ y, y = rl 7 (y3 ^^^ y6) := ⟨_, rfl⟩
  obtain ⟨z, hz⟩ : ∃ z, z = y3 ^^^ y6 := ⟨_, rfl⟩
  have HC1 := Lib.hid (fun V => (show Calls Try.prog 21 #[.int .i64 (y3.toNat : Int), .int .i64 (y6.toNat : Int)] V fun e w' => e = .returned (.int .i64 (z.toNat : Int)) ∧ w' = V from (rxor_any y3 y6 V).mono fun e w' h => ⟨by rw [h.1, hz], h.2⟩))
  have HC2 := Lib.hid (fun V => (show Calls Try.prog 20 #[.int .i64 (z.toNat : Int), .int .i64 7] V fun e w' => e = .returned (.int .i64 (y7.toNat : Int)) ∧ w' = V from (rturn_any z 7 (by decide) V).mono fun e w' h => ⟨by rw [h.1, hy7, hz], h.2⟩))
  have HE7 := Lib.hid hy7
  clear hy7 hz
  refine wp_region_still_tail 12 (by kernel_rfl) (by kernel_rfl) ?_
  change wpStill _ _ W7.drew (fun a' => wpList _ _ _ _ a' W7.drew) _ _
  have HV := Lib.hid H7.out.drew
  clear H7
  generalize W7.drew = V7 at *
  obtain ⟨kp, fp⟩ := HV.out.cellB
  obtain ⟨kq, fq⟩ := HV.out.cellC
  simp only [List.take_succ_cons, List.take_zero, List.drop_succ_cons, List.drop_zero]
  repeat still_step
  still_call (HC1.out V7)
  repeat still_step
  still_call (HC2.out V7)
  repeat still_step
  refine wpStill_nil ?_
  have H8 := Lib.hid (HV.out.setB HP.out y7)
  clear HV HC1 HC2
  go_wp2
  clear kp fp kq fq
  go_ret
  have hl : (wn (qAt s a b c d)).length = L := by rw [wn_len, qAt_len, HL.out]
  obtain ⟨ha, hb, hc, hd⟩ := HIN.out
  obtain ⟨hxa, hxb, hxc, hxd⟩ := HX.out
  have hq : qr ⟨s.getD a 0, s.getD b 0, s.getD c 0, s.getD d 0⟩ = ⟨y4, y7, y6, y5⟩ := by
    rw [hxa, hxb, hxc, hxd, HE7.out, HE6.out, HE5.out, HE4.out, HE3.out, HE2.out, HE1.out, HE0.out]
    rfl
  refine ⟨g, cap, by rw [hl]; rfl, ?_, H8.out.grow, H8.out.base⟩
  rw [hl, HL.out]
  exact H8.out.done HP.out ha hb hc hd hq cap (by rw [← HL.out]; exact HCAP.out.1) HCAP.out.2
end Go.Proofs.Ytmhpnddelebjdaa
