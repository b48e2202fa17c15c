/-
  Several texts in one file.
-/
import Derived.Test.YtjcbdplbekecjaaStrQuarter
import Derived.Test.YtjcbdplbekecjaaAppInts
import Derived.Test.YtjcbdplbekecjaaStrAllQ
import Derived.StillTailTactics
import Derived.Test.YtjcbdplbekecjaaReg2Base
import Derived.Test.YtjcbdplbekecjaaStrBlock
import Derived.Test.YtjcbdplbekecjaaAppBytes
/-
  The document's own small words of layer 5 over this program: word, turn, xor.
-/
namespace Go.Proofs.Ytjcbdplbekecjaa
open Go.RowKit

/-- A call that answers a number and turns nothing. -/
def I64 (n : Nat) (w : World) (e : Ending) (w' : World) : Prop := e = .returned (.int .i64 (n : Int)) ∧ w' = w

theorem rword_any (n : Nat) (h : n ≤ 1000000000000) (w : World) : Calls Try.prog 28 #[.int .i64 (n : Int)] w (I64 (n % 4294967296) w) := by
  go_enter Try.func28, Try.ntmps28
  go_wp2
  go_ret
  exact ⟨by simp, rfl⟩
/-- A number of 32 bits, turned up. -/
def ln (k x : Nat) : Nat := x % 2 ^ (32 - k) * 2 ^ k + x / 2 ^ (32 - k)
theorem ln_zero (x : Nat) (h : x < 4294967296) : ln 0 x = x := by
  unfold ln
  rw [Nat.sub_zero, Nat.mod_eq_of_lt (by omega), Nat.div_eq_of_lt (by omega)]
  omega
theorem ln_succ (k x : Nat) (h : k < 32) (hx : x < 4294967296) : ln (k + 1) x = ln k x * 2 % 4294967296 + ln k x / 2147483648 := by
  unfold ln
  have hj : 2 ^ (32 - k) = 2 ^ (32 - (k + 1)) * 2 := by rw [← Nat.pow_succ]; congr 1; omega
  have h31 : 2 ^ (32 - (k + 1)) * 2 ^ k = 2147483648 := by rw [← Nat.pow_add, show 32 - (k + 1) + k = 31 by omega]
  have hq : x / 2 ^ (32 - k) = x / 2 ^ (32 - (k + 1)) / 2 := by rw [hj, Nat.div_div_eq_div_mul]
  have hr : x % 2 ^ (32 - k) = x % 2 ^ (32 - (k + 1)) + 2 ^ (32 - (k + 1)) * (x / 2 ^ (32 - (k + 1)) % 2) := by rw [hj, Nat.mod_mul]
  have hqk : x / 2 ^ (32 - (k + 1)) / 2 < 2 ^ k := by
    rw [← hq, Nat.div_lt_iff_lt_mul (Nat.two_pow_pos _), ← Nat.pow_add, show k + (32 - k) = 32 by omega]
    omega
  have hrl : x % 2 ^ (32 - (k + 1)) < 2 ^ (32 - (k + 1)) := Nat.mod_lt _ (Nat.two_pow_pos _)
  rw [hq, hr, Nat.pow_succ 2 k]
  generalize x / 2 ^ (32 - (k + 1)) = Q at *
  generalize x % 2 ^ (32 - (k + 1)) = R at *
  have hb : Q % 2 = 0 ∨ Q % 2 = 1 := by omega
  have ht : R * 2 ^ k + 2 ^ k ≤ 2147483648 := by
    rw [← h31, ← Nat.succ_mul]
    exact Nat.mul_le_mul_right _ hrl
  have e : (R + 2 ^ (32 - (k + 1)) * (Q % 2)) * 2 ^ k = R * 2 ^ k + 2147483648 * (Q % 2) := by
    rw [Nat.add_mul, Nat.mul_right_comm, h31]
  rw [e, ← Nat.mul_assoc]
  generalize R * 2 ^ k = T at *
  generalize 2 ^ k = K at *
  omega
theorem rl_nat (n : Nat) (h : n ≤ 32) (x : W32) : (rl n x).toNat = ln n x.toNat := by
  unfold rl ln
  have h32 : (2 : Nat) ^ 32 = 2 ^ (32 - n) * 2 ^ n := by rw [← Nat.pow_add]; congr 1; omega
  rw [BitVec.toNat_or, BitVec.toNat_ushiftRight, BitVec.toNat_shiftLeft, Nat.shiftLeft_eq, Nat.shiftRight_eq_div_pow, h32, Nat.mul_mod_mul_right]
  have hlt : x.toNat / 2 ^ (32 - n) < 2 ^ n := by
    rw [Nat.div_lt_iff_lt_mul (Nat.two_pow_pos _), Nat.mul_comm, ← h32]
    exact x.isLt
  have := Nat.two_pow_add_eq_or_of_lt (i := n) hlt (x.toNat % 2 ^ (32 - n))
  rw [Nat.mul_comm (x.toNat % 2 ^ (32 - n)), ← this]
theorem ln_lt (k x : Nat) (h : k ≤ 32) (hx : x < 4294967296) : ln k x < 4294967296 := by
  have := rl_nat k h (BitVec.ofNat 32 x)
  rw [BitVec.toNat_ofNat, Nat.mod_eq_of_lt hx] at this
  rw [← this]
  exact (rl k (BitVec.ofNat 32 x)).isLt

theorem rturn_any (x : W32) (n : Nat) (hn : n ≤ 32) (w : World) : Calls Try.prog 53 #[.int .i64 (x.toNat : Int), .int .i64 (n : Int)] w (I64 (rl n x).toNat w) := by
  have hx := x.isLt
  have HR := Lib.hid (rl_nat n hn x)
  generalize (rl n x).toNat = R at *
  generalize x.toNat = X at *
  go_enter Try.func53, Try.ntmps53
  go_wp2
  go_loop [0, 5] (fun a i => ∃ k : Nat, k ≤ n ∧ i = .int .i64 k ∧ a = .int .i64 ((ln k X : Nat) : Int)) (fun _ i => n - (intOf i).toNat)
  case atStart => exact ⟨0, Nat.zero_le _, rfl, by rw [ln_zero X hx]⟩
  case round =>
    obtain ⟨k, hk, rfl, rfl⟩ := hrel
    by_cases hlt : k < n
    · have HS := Lib.hid (ln_succ k X (by omega) hx)
      have hle := ln_lt k X (by omega) hx
      generalize ln k X = N at *
      go_wp2
      go_round
      case rel => exact ⟨k + 1, by omega, by go_num, by rw [HS.out]; go_num⟩
      case measure => simp [intOf]; omega
    · have hkn : ln k X = R := by rw [HR.out, show n = k by omega]
      rw [hkn]
      clear hkn
      go_wp2
      go_ret
      exact ⟨rfl, rfl⟩

theorem rxor_any (a b : W32) (w : World) : Calls Try.prog 54 #[.int .i64 (a.toNat : Int), .int .i64 (b.toNat : Int)] w (I64 (a ^^^ b).toNat w) := by
  have HX := Lib.hid (xor32 a b)
  have hab := (a ^^^ b).isLt
  have ha := a.isLt
  have hb := b.isLt
  generalize (a ^^^ b).toNat = X at *
  generalize a.toNat = A at *
  generalize b.toNat = B at *
  go_enter Try.func54, Try.ntmps54
  go_wp2
  rw [HX.out]
  go_ret
  refine ⟨?_, rfl⟩
  have hw : wrap64 (X : Int) = (X : Int) := by unfold wrap64; omega
  rw [hw]
  rfl
end Go.Proofs.Ytjcbdplbekecjaa

/-
  The document's own Quarter of layer 5 over this program.
-/
namespace Go.Proofs.Ytjcbdplbekecjaa
open Go.RowKit

def wn (l : List W32) : List Nat := l.map BitVec.toNat
theorem wn_len (l : List W32) : (wn l).length = l.length := by simp [wn]
theorem wn_at (l : List W32) (k : Nat) (h : k < l.length) : (wn l).getD k 0 = (l.getD k 0).toNat := by simp [wn, List.getElem?_eq_getElem h]
theorem own_emptyI (w : World) (base : Nat) (hb : base ≤ w.heap.size) : (w.alloc (.cells #[] 3)).ownsRow base 3 1 (.slice (some ⟨w.heap.size, 0, none⟩) 0 0) 0 [] :=
  ⟨rfl, .inr ⟨w.heap.size, 0, #[], rfl, hb, heap_alloc_last w _, Nat.le_refl _, Nat.zero_le _, rfl, rfl⟩⟩

/-- The row in the midst of a quarter: what stands at the four places, the others as they were. -/
structure Qt (w : World) (g : Nat) (s : List W32) (a b c d : Nat) (q : Q4) (W : World) : Prop where
  cs : ∃ cs : List Value, Row W g 3 cs ∧ cs[a]? = some (.int .i64 (q.a.toNat : Int)) ∧ cs[b]? = some (.int .i64 (q.b.toNat : Int)) ∧ cs[c]? = some (.int .i64 (q.c.toNat : Int)) ∧ cs[d]? = some (.int .i64 (q.d.toNat : Int)) ∧
    ∀ j, j < s.length → j ≠ a → j ≠ b → j ≠ c → j ≠ d → cs[j]? = some (.int .i64 ((s.getD j 0).toNat : Int))
  grow : w.grownBy W none
  base : w.heap.size ≤ g
structure Apart (a b c d : Nat) : Prop where
  ab : a ≠ b
  ac : a ≠ c
  ad : a ≠ d
  bc : b ≠ c
  bd : b ≠ d
  cd : c ≠ d
section
variable {w W : World} {g a b c d : Nat} {s : List W32} {xa xb xc xd : W32}
theorem Qt.drew {q : Q4} (h : Qt w g s a b c d q W) : Qt w g s a b c d q W.drew := ⟨h.cs, grown_drew h.grow, h.base⟩
theorem Qt.cellA (h : Qt w g s a b c d ⟨xa, xb, xc, xd⟩ W) : W.cell? ⟨g, a, none⟩ = some (.int .i64 (xa.toNat : Int)) ∧ W.frozen? ⟨g, a, none⟩ = false := by
  obtain ⟨cs, hr, ha, hb, hc, hd, _⟩ := h.cs
  exact ⟨hr.cell ha, hr.frozen a⟩
theorem Qt.cellB (h : Qt w g s a b c d ⟨xa, xb, xc, xd⟩ W) : W.cell? ⟨g, b, none⟩ = some (.int .i64 (xb.toNat : Int)) ∧ W.frozen? ⟨g, b, none⟩ = false := by
  obtain ⟨cs, hr, ha, hb, hc, hd, _⟩ := h.cs
  exact ⟨hr.cell hb, hr.frozen b⟩
theorem Qt.cellC (h : Qt w g s a b c d ⟨xa, xb, xc, xd⟩ W) : W.cell? ⟨g, c, none⟩ = some (.int .i64 (xc.toNat : Int)) ∧ W.frozen? ⟨g, c, none⟩ = false := by
  obtain ⟨cs, hr, ha, hb, hc, hd, _⟩ := h.cs
  exact ⟨hr.cell hc, hr.frozen c⟩
theorem Qt.cellD (h : Qt w g s a b c d ⟨xa, xb, xc, xd⟩ W) : W.cell? ⟨g, d, none⟩ = some (.int .i64 (xd.toNat : Int)) ∧ W.frozen? ⟨g, d, none⟩ = false := by
  obtain ⟨cs, hr, ha, hb, hc, hd, _⟩ := h.cs
  exact ⟨hr.cell hd, hr.frozen d⟩
theorem get_set_other {cs : List Value} {i j : Nat} {u v : Value} (h : cs[j]? = some u) (hne : i ≠ j) : (cs.set i v)[j]? = some u := by rw [List.getElem?_set_ne hne]; exact h
theorem get_set_same {cs : List Value} {i : Nat} {u v : Value} (h : cs[i]? = some u) : (cs.set i v)[i]? = some v := by
  have hlt := (List.getElem?_eq_some_iff.1 h).1
  rw [List.getElem?_set_self hlt]
theorem Qt.setA (hp : Apart a b c d) (h : Qt w g s a b c d ⟨xa, xb, xc, xd⟩ W) (y : W32) : Qt w g s a b c d ⟨y, xb, xc, xd⟩ (W.setCell ⟨g, a, none⟩ (.int .i64 (y.toNat : Int))) := by
  obtain ⟨⟨cs, hr, ha, hb, hc, hd, hx⟩, hg, hbase⟩ := h
  exact ⟨⟨cs.set a _, hr.set a _, get_set_same ha, get_set_other hb hp.ab, get_set_other hc hp.ac, get_set_other hd hp.ad, fun j hj ja jb jc jd => get_set_other (hx j hj ja jb jc jd) (ja.symm)⟩, grown_own hg (grown_set W g a _) hbase, hbase⟩
theorem Qt.setB (hp : Apart a b c d) (h : Qt w g s a b c d ⟨xa, xb, xc, xd⟩ W) (y : W32) : Qt w g s a b c d ⟨xa, y, xc, xd⟩ (W.setCell ⟨g, b, none⟩ (.int .i64 (y.toNat : Int))) := by
  obtain ⟨⟨cs, hr, ha, hb, hc, hd, hx⟩, hg, hbase⟩ := h
  exact ⟨⟨cs.set b _, hr.set b _, get_set_other ha (hp.ab.symm), get_set_same hb, get_set_other hc hp.bc, get_set_other hd hp.bd, fun j hj ja jb jc jd => get_set_other (hx j hj ja jb jc jd) (jb.symm)⟩, grown_own hg (grown_set W g b _) hbase, hbase⟩
theorem Qt.setC (hp : Apart a b c d) (h : Qt w g s a b c d ⟨xa, xb, xc, xd⟩ W) (y : W32) : Qt w g s a b c d ⟨xa, xb, y, xd⟩ (W.setCell ⟨g, c, none⟩ (.int .i64 (y.toNat : Int))) := by
  obtain ⟨⟨cs, hr, ha, hb, hc, hd, hx⟩, hg, hbase⟩ := h
  exact ⟨⟨cs.set c _, hr.set c _, get_set_other ha (hp.ac.symm), get_set_other hb (hp.bc.symm), get_set_same hc, get_set_other hd hp.cd, fun j hj ja jb jc jd => get_set_other (hx j hj ja jb jc jd) (jc.symm)⟩, grown_own hg (grown_set W g c _) hbase, hbase⟩
theorem Qt.setD (hp : Apart a b c d) (h : Qt w g s a b c d ⟨xa, xb, xc, xd⟩ W) (y : W32) : Qt w g s a b c d ⟨xa, xb, xc, y⟩ (W.setCell ⟨g, d, none⟩ (.int .i64 (y.toNat : Int))) := by
  obtain ⟨⟨cs, hr, ha, hb, hc, hd, hx⟩, hg, hbase⟩ := h
  exact ⟨⟨cs.set d _, hr.set d _, get_set_other ha (hp.ad.symm), get_set_other hb (hp.bd.symm), get_set_other hc (hp.cd.symm), get_set_same hd, fun j hj ja jb jc jd => get_set_other (hx j hj ja jb jc jd) (jd.symm)⟩, grown_own hg (grown_set W g d _) hbase, hbase⟩
theorem qAt_get (s : List W32) (a b c d : Nat) (q : Q4) (hp : Apart a b c d) (ha : a < s.length) (hb : b < s.length) (hc : c < s.length) (hd : d < s.length) (h : qr ⟨s.getD a 0, s.getD b 0, s.getD c 0, s.getD d 0⟩ = q) (j : Nat) :
    (qAt s a b c d).getD j 0 = if j = d then q.d else if j = c then q.c else if j = b then q.b else if j = a then q.a else s.getD j 0 := by
  have hab := hp.ab
  have hac := hp.ac
  have had := hp.ad
  have hbc := hp.bc
  have hbd := hp.bd
  have hcd := hp.cd
  rw [qAt_of s a b c d q h]
  simp only [List.getD_eq_getElem?_getD, List.getElem?_set, List.length_set]
  by_cases e1 : j = d
  · subst e1; simp [hd]
  · rw [if_neg (Ne.symm e1), if_neg e1]
    by_cases e2 : j = c
    · subst e2; simp [hc]
    · rw [if_neg (Ne.symm e2), if_neg e2]
      by_cases e3 : j = b
      · subst e3; simp [hb]
      · rw [if_neg (Ne.symm e3), if_neg e3]
        by_cases e4 : j = a
        · subst e4; simp [ha]
        · rw [if_neg (Ne.symm e4), if_neg e4]
theorem Qt.done (hp : Apart a b c d) (ha : a < s.length) (hb : b < s.length) (hc : c < s.length) (hd : d < s.length) {q : Q4} (h : Qt w g s a b c d q W) (hq : qr ⟨s.getD a 0, s.getD b 0, s.getD c 0, s.getD d 0⟩ = q) (cap : Nat) (hcap : s.length ≤ cap) (hm : cap ≤ maxLen) :
    Rd W (.slice (some ⟨g, 0, none⟩) s.length cap) (intsV (wn (qAt s a b c d))) := by
  obtain ⟨⟨cs, hr, xa, xb, xc, xd, hx⟩, hg, hbase⟩ := h
  have hlen : (intsV (wn (qAt s a b c d))).length = s.length := by rw [intsV_len, wn_len, qAt_len]
  refine ⟨_, cap, by rw [hlen], by rw [hlen]; exact hcap, hm, fun _ => ⟨_, rfl, fun j u hu => ?_⟩⟩
  have hj : j < s.length := by
    have := (List.getElem?_eq_some_iff.1 hu).1
    omega
  rw [intsV_at _ j (by rw [wn_len, qAt_len]; exact hj), wn_at _ _ (by rw [qAt_len]; exact hj), qAt_get s a b c d q hp ha hb hc hd hq j] at hu
  have hadd : (⟨g, 0, none⟩ : Addr).add j = ⟨g, j, none⟩ := by unfold Addr.add; split <;> simp_all
  rw [hadd, ← hu]
  refine hr.cell ?_
  by_cases e1 : j = d
  · rw [if_pos e1, e1]; exact xd
  · rw [if_neg e1]
    by_cases e2 : j = c
    · rw [if_pos e2, e2]; exact xc
    · rw [if_neg e2]
      by_cases e3 : j = b
      · rw [if_pos e3, e3]; exact xb
      · rw [if_neg e3]
        by_cases e4 : j = a
        · rw [if_pos e4, e4]; exact xa
        · rw [if_neg e4]; exact hx j hj e4 e3 e2 e1
end
/-- What Quarter answers: a row of the call's own. -/
def OutN (l : List Nat) (w : World) (e : Ending) (w' : World) : Prop :=
  ∃ g cap, e = .returned (.slice (some ⟨g, 0, none⟩) l.length cap) ∧ Rd w' (.slice (some ⟨g, 0, none⟩) l.length cap) (intsV l) ∧ w.grownBy w' none ∧ w.heap.size ≤ g

set_option maxRecDepth 4000 in
set_option maxHeartbeats 8000000 in
theorem rquarter_any (v : Value) (s : List W32) (a b c d : Nat) (hp : Apart a b c d) (ha : a < s.length) (hb : b < s.length) (hc : c < s.length) (hd : d < s.length) (hs : s.length ≤ 16) (w : World) (hr : Rd w v (intsV (wn s))) :
    Calls Try.prog 34 #[v, .int .i64 (a : Int), .int .i64 (b : Int), .int .i64 (c : Int), .int .i64 (d : Int)] w (OutN (wn (qAt s a b c d)) w) := by
  obtain ⟨L, hL⟩ : ∃ L, L = s.length := ⟨_, rfl⟩
  obtain ⟨A, cc, rfl⟩ := hr.form
  rw [intsV_len, wn_len, ← hL] at hr ⊢
  have HR := Lib.hid hr
  have HL := Lib.hid hL
  have HP := Lib.hid hp
  have HIN := Lib.hid (And.intro ha (And.intro hb (And.intro hc hd)))
  have ia : (a : Int) < (L : Int) := by omega
  have ib : (b : Int) < (L : Int) := by omega
  have ic : (c : Int) < (L : Int) := by omega
  have id_ : (d : Int) < (L : Int) := by omega
  have hL16 : L ≤ 16 := by omega
  clear hr hL hp ha hb hc hd hs
  go_enter Try.func34, Try.ntmps34
  go_wp2_with (at_builtin; refine wpList_append_ints _ rfl _ _ rfl w.heap.size _ 0 [] rfl (own_emptyI w _ (Nat.le_refl _)) _ (wn s) rfl (HR.out.grown0 (grown_alloc (grown_refl _ none) _)) ?_ ?_ ?_)
  · rw [wn_len, ← HL.out]; omega
  · simp
  intro v1 w1 ho1 hg1 _
  rw [wn_len, ← HL.out] at ho1
  have hgw : w.grownBy w1 none := grown_new (grown_alloc (grown_refl w none) _) hg1 (fun x e => by cases e; exact Nat.le_refl _)
  have hne : L ≠ 0 := by omega
  obtain ⟨hlen, ⟨rfl, h0⟩ | ⟨g, cap, cur, rfl, hbase, hgc, hnc, hcm, hsz, htk⟩⟩ := ho1
  · exact absurd h0 hne
  have hcl : ∀ j, j < s.length → cur.toList[j]? = some (.int .i64 ((s.getD j 0).toNat : Int)) := fun j hj => by
    have h1 := intsV_at (wn s) j (by rw [wn_len]; exact hj)
    rw [wn_at s j hj] at h1
    have h2 : (cur.toList.take (L * 1))[j]? = some (.int .i64 ((s.getD j 0).toNat : Int)) := by rw [htk]; exact h1
    rw [List.getElem?_take] at h2
    split at h2
    · exact h2
    · cases h2
  obtain ⟨ha, hb, hc, hd⟩ := HIN.out
  obtain ⟨xa, hxa⟩ : ∃ x, s.getD a 0 = x := ⟨_, rfl⟩
  obtain ⟨xb, hxb⟩ : ∃ x, s.getD b 0 = x := ⟨_, rfl⟩
  obtain ⟨xc, hxc⟩ : ∃ x, s.getD c 0 = x := ⟨_, rfl⟩
  obtain ⟨xd, hxd⟩ : ∃ x, s.getD d 0 = x := ⟨_, rfl⟩
  have H0 := Lib.hid (show Qt w g s a b c d ⟨xa, xb, xc, xd⟩ w1 from ⟨⟨cur.toList, by simpa [Row] using hgc, hxa ▸ hcl a ha, hxb ▸ hcl b hb, hxc ▸ hcl c hc, hxd ▸ hcl d hd, fun j hj _ _ _ _ => hcl j hj⟩, hgw, hbase⟩)
  have HX := Lib.hid (And.intro hxa (And.intro hxb (And.intro hxc hxd)))
  have HCAP := Lib.hid (And.intro hnc hcm)
  have hnc' : L ≤ cap := hnc
  clear hcl hgw hgc hnc hcm hsz htk hlen hne ha hb hc hd hxa hxb hxc hxd hbase hg1 HR
  have ada : (⟨g, 0, none⟩ : Addr).add a = ⟨g, a, none⟩ := by unfold Addr.add; split <;> simp_all
  have adb : (⟨g, 0, none⟩ : Addr).add b = ⟨g, b, none⟩ := by unfold Addr.add; split <;> simp_all
  have adc : (⟨g, 0, none⟩ : Addr).add c = ⟨g, c, none⟩ := by unfold Addr.add; split <;> simp_all
  have add_ : (⟨g, 0, none⟩ : Addr).add d = ⟨g, d, none⟩ := by unfold Addr.add; split <;> simp_all
  obtain ⟨W0, hW0⟩ : ∃ W, W = w1 := ⟨_, rfl⟩
  subst hW0
  go_wp2
  obtain ⟨y0, hy0⟩ : ∃ y, y = xa + xb := ⟨_, rfl⟩
  obtain ⟨N, hN⟩ : ∃ N, N = xa.toNat + xb.toNat := ⟨_, rfl⟩
  have hw : IntKind.i64.wrap ((xa.toNat : Int) + (xb.toNat : Int)) = (N : Int) := by
    have := xa.isLt
    have := xb.isLt
    rw [IntKind.wrap_i64, hN]
    omega
  have HC1 := Lib.hid (fun V => (show Calls Try.prog 28 #[.int .i64 (N : Int)] V fun e w' => e = .returned (.int .i64 (y0.toNat : Int)) ∧ w' = V from (rword_any N (by have := xa.isLt; have := xb.isLt; omega) V).mono fun e w' h => ⟨by rw [h.1, hy0, BitVec.toNat_add, hN], h.2⟩))
  have HE0 := Lib.hid hy0
  clear hy0 hN
  refine wp_region_still_tail 12 (by kernel_rfl) (by kernel_rfl) ?_
  change wpStill _ _ W0.drew (fun a' => wpList _ _ _ _ a' W0.drew) _ _
  have HV := Lib.hid H0.out.drew
  clear H0
  generalize W0.drew = V0 at *
  obtain ⟨kp, fp⟩ := HV.out.cellA
  obtain ⟨kq, fq⟩ := HV.out.cellB
  simp only [List.take_succ_cons, List.take_zero, List.drop_succ_cons, List.drop_zero]
  repeat still_step
  still_call (HC1.out V0)
  repeat still_step
  refine wpStill_nil ?_
  have H1 := Lib.hid (HV.out.setA HP.out y0)
  clear HV HC1 hw
  go_wp2
  clear kp fp kq fq
  generalize hW : V0.setCell ⟨g, a, none⟩ (.int .i64 (y0.toNat : Int)) = W1 at *
  clear hW
  obtain ⟨y1, hy1⟩ : ∃ y, y = rl 16 (xd ^^^ y0) := ⟨_, rfl⟩
  obtain ⟨z, hz⟩ : ∃ z, z = xd ^^^ y0 := ⟨_, rfl⟩
  have HC1 := Lib.hid (fun V => (show Calls Try.prog 54 #[.int .i64 (xd.toNat : Int), .int .i64 (y0.toNat : Int)] V fun e w' => e = .returned (.int .i64 (z.toNat : Int)) ∧ w' = V from (rxor_any xd y0 V).mono fun e w' h => ⟨by rw [h.1, hz], h.2⟩))
  have HC2 := Lib.hid (fun V => (show Calls Try.prog 53 #[.int .i64 (z.toNat : Int), .int .i64 16] V fun e w' => e = .returned (.int .i64 (y1.toNat : Int)) ∧ w' = V from (rturn_any z 16 (by decide) V).mono fun e w' h => ⟨by rw [h.1, hy1, hz], h.2⟩))
  have HE1 := Lib.hid hy1
  clear hy1 hz
  refine wp_region_still_tail 12 (by kernel_rfl) (by kernel_rfl) ?_
  change wpStill _ _ W1.drew (fun a' => wpList _ _ _ _ a' W1.drew) _ _
  have HV := Lib.hid H1.out.drew
  clear H1
  generalize W1.drew = V1 at *
  obtain ⟨kp, fp⟩ := HV.out.cellD
  obtain ⟨kq, fq⟩ := HV.out.cellA
  simp only [List.take_succ_cons, List.take_zero, List.drop_succ_cons, List.drop_zero]
  repeat still_step
  still_call (HC1.out V1)
  repeat still_step
  still_call (HC2.out V1)
  repeat still_step
  refine wpStill_nil ?_
  have H2 := Lib.hid (HV.out.setD HP.out y1)
  clear HV HC1 HC2
  go_wp2
  clear kp fp kq fq
  generalize hW : V1.setCell ⟨g, d, none⟩ (.int .i64 (y1.toNat : Int)) = W2 at *
  clear hW
  obtain ⟨y2, hy2⟩ : ∃ y, y = xc + y1 := ⟨_, rfl⟩
  obtain ⟨N, hN⟩ : ∃ N, N = xc.toNat + y1.toNat := ⟨_, rfl⟩
  have hw : IntKind.i64.wrap ((xc.toNat : Int) + (y1.toNat : Int)) = (N : Int) := by
    have := xc.isLt
    have := y1.isLt
    rw [IntKind.wrap_i64, hN]
    omega
  have HC1 := Lib.hid (fun V => (show Calls Try.prog 28 #[.int .i64 (N : Int)] V fun e w' => e = .returned (.int .i64 (y2.toNat : Int)) ∧ w' = V from (rword_any N (by have := xc.isLt; have := y1.isLt; omega) V).mono fun e w' h => ⟨by rw [h.1, hy2, BitVec.toNat_add, hN], h.2⟩))
  have HE2 := Lib.hid hy2
  clear hy2 hN
  refine wp_region_still_tail 12 (by kernel_rfl) (by kernel_rfl) ?_
  change wpStill _ _ W2.drew (fun a' => wpList _ _ _ _ a' W2.drew) _ _
  have HV := Lib.hid H2.out.drew
  clear H2
  generalize W2.drew = V2 at *
  obtain ⟨kp, fp⟩ := HV.out.cellC
  obtain ⟨kq, fq⟩ := HV.out.cellD
  simp only [List.take_succ_cons, List.take_zero, List.drop_succ_cons, List.drop_zero]
  repeat still_step
  still_call (HC1.out V2)
  repeat still_step
  refine wpStill_nil ?_
  have H3 := Lib.hid (HV.out.setC HP.out y2)
  clear HV HC1 hw
  go_wp2
  clear kp fp kq fq
  generalize hW : V2.setCell ⟨g, c, none⟩ (.int .i64 (y2.toNat : Int)) = W3 at *
  clear hW
  obtain ⟨y3, hy3⟩ : ∃ y, y = rl 12 (xb ^^^ y2) := ⟨_, rfl⟩
  obtain ⟨z, hz⟩ : ∃ z, z = xb ^^^ y2 := ⟨_, rfl⟩
  have HC1 := Lib.hid (fun V => (show Calls Try.prog 54 #[.int .i64 (xb.toNat : Int), .int .i64 (y2.toNat : Int)] V fun e w' => e = .returned (.int .i64 (z.toNat : Int)) ∧ w' = V from (rxor_any xb y2 V).mono fun e w' h => ⟨by rw [h.1, hz], h.2⟩))
  have HC2 := Lib.hid (fun V => (show Calls Try.prog 53 #[.int .i64 (z.toNat : Int), .int .i64 12] V fun e w' => e = .returned (.int .i64 (y3.toNat : Int)) ∧ w' = V from (rturn_any z 12 (by decide) V).mono fun e w' h => ⟨by rw [h.1, hy3, hz], h.2⟩))
  have HE3 := Lib.hid hy3
  clear hy3 hz
  refine wp_region_still_tail 12 (by kernel_rfl) (by kernel_rfl) ?_
  change wpStill _ _ W3.drew (fun a' => wpList _ _ _ _ a' W3.drew) _ _
  have HV := Lib.hid H3.out.drew
  clear H3
  generalize W3.drew = V3 at *
  obtain ⟨kp, fp⟩ := HV.out.cellB
  obtain ⟨kq, fq⟩ := HV.out.cellC
  simp only [List.take_succ_cons, List.take_zero, List.drop_succ_cons, List.drop_zero]
  repeat still_step
  still_call (HC1.out V3)
  repeat still_step
  still_call (HC2.out V3)
  repeat still_step
  refine wpStill_nil ?_
  have H4 := Lib.hid (HV.out.setB HP.out y3)
  clear HV HC1 HC2
  go_wp2
  clear kp fp kq fq
  generalize hW : V3.setCell ⟨g, b, none⟩ (.int .i64 (y3.toNat : Int)) = W4 at *
  clear hW
  obtain ⟨y4, hy4⟩ : ∃ y, y = y0 + y3 := ⟨_, rfl⟩
  obtain ⟨N, hN⟩ : ∃ N, N = y0.toNat + y3.toNat := ⟨_, rfl⟩
  have hw : IntKind.i64.wrap ((y0.toNat : Int) + (y3.toNat : Int)) = (N : Int) := by
    have := y0.isLt
    have := y3.isLt
    rw [IntKind.wrap_i64, hN]
    omega
  have HC1 := Lib.hid (fun V => (show Calls Try.prog 28 #[.int .i64 (N : Int)] V fun e w' => e = .returned (.int .i64 (y4.toNat : Int)) ∧ w' = V from (rword_any N (by have := y0.isLt; have := y3.isLt; omega) V).mono fun e w' h => ⟨by rw [h.1, hy4, BitVec.toNat_add, hN], h.2⟩))
  have HE4 := Lib.hid hy4
  clear hy4 hN
  refine wp_region_still_tail 12 (by kernel_rfl) (by kernel_rfl) ?_
  change wpStill _ _ W4.drew (fun a' => wpList _ _ _ _ a' W4.drew) _ _
  have HV := Lib.hid H4.out.drew
  clear H4
  generalize W4.drew = V4 at *
  obtain ⟨kp, fp⟩ := HV.out.cellA
  obtain ⟨kq, fq⟩ := HV.out.cellB
  simp only [List.take_succ_cons, List.take_zero, List.drop_succ_cons, List.drop_zero]
  repeat still_step
  still_call (HC1.out V4)
  repeat still_step
  refine wpStill_nil ?_
  have H5 := Lib.hid (HV.out.setA HP.out y4)
  clear HV HC1 hw
  go_wp2
  clear kp fp kq fq
  generalize hW : V4.setCell ⟨g, a, none⟩ (.int .i64 (y4.toNat : Int)) = W5 at *
  clear hW
  obtain ⟨y5, hy5⟩ : ∃ y, y = rl 8 (y1 ^^^ y4) := ⟨_, rfl⟩
  obtain ⟨z, hz⟩ : ∃ z, z = y1 ^^^ y4 := ⟨_, rfl⟩
  have HC1 := Lib.hid (fun V => (show Calls Try.prog 54 #[.int .i64 (y1.toNat : Int), .int .i64 (y4.toNat : Int)] V fun e w' => e = .returned (.int .i64 (z.toNat : Int)) ∧ w' = V from (rxor_any y1 y4 V).mono fun e w' h => ⟨by rw [h.1, hz], h.2⟩))
  have HC2 := Lib.hid (fun V => (show Calls Try.prog 53 #[.int .i64 (z.toNat : Int), .int .i64 8] V fun e w' => e = .returned (.int .i64 (y5.toNat : Int)) ∧ w' = V from (rturn_any z 8 (by decide) V).mono fun e w' h => ⟨by rw [h.1, hy5, hz], h.2⟩))
  have HE5 := Lib.hid hy5
  clear hy5 hz
  refine wp_region_still_tail 12 (by kernel_rfl) (by kernel_rfl) ?_
  change wpStill _ _ W5.drew (fun a' => wpList _ _ _ _ a' W5.drew) _ _
  have HV := Lib.hid H5.out.drew
  clear H5
  generalize W5.drew = V5 at *
  obtain ⟨kp, fp⟩ := HV.out.cellD
  obtain ⟨kq, fq⟩ := HV.out.cellA
  simp only [List.take_succ_cons, List.take_zero, List.drop_succ_cons, List.drop_zero]
  repeat still_step
  still_call (HC1.out V5)
  repeat still_step
  still_call (HC2.out V5)
  repeat still_step
  refine wpStill_nil ?_
  have H6 := Lib.hid (HV.out.setD HP.out y5)
  clear HV HC1 HC2
  go_wp2
  clear kp fp kq fq
  generalize hW : V5.setCell ⟨g, d, none⟩ (.int .i64 (y5.toNat : Int)) = W6 at *
  clear hW
  obtain ⟨y6, hy6⟩ : ∃ y, y = y2 + y5 := ⟨_, rfl⟩
  obtain ⟨N, hN⟩ : ∃ N, N = y2.toNat + y5.toNat := ⟨_, rfl⟩
  have hw : IntKind.i64.wrap ((y2.toNat : Int) + (y5.toNat : Int)) = (N : Int) := by
    have := y2.isLt
    have := y5.isLt
    rw [IntKind.wrap_i64, hN]
    omega
  have HC1 := Lib.hid (fun V => (show Calls Try.prog 28 #[.int .i64 (N : Int)] V fun e w' => e = .returned (.int .i64 (y6.toNat : Int)) ∧ w' = V from (rword_any N (by have := y2.isLt; have := y5.isLt; omega) V).mono fun e w' h => ⟨by rw [h.1, hy6, BitVec.toNat_add, hN], h.2⟩))
  have HE6 := Lib.hid hy6
  clear hy6 hN
  refine wp_region_still_tail 12 (by kernel_rfl) (by kernel_rfl) ?_
  change wpStill _ _ W6.drew (fun a' => wpList _ _ _ _ a' W6.drew) _ _
  have HV := Lib.hid H6.out.drew
  clear H6
  generalize W6.drew = V6 at *
  obtain ⟨kp, fp⟩ := HV.out.cellC
  obtain ⟨kq, fq⟩ := HV.out.cellD
  simp only [List.take_succ_cons, List.take_zero, List.drop_succ_cons, List.drop_zero]
  repeat still_step
  still_call (HC1.out V6)
  repeat still_step
  refine wpStill_nil ?_
  have H7 := Lib.hid (HV.out.setC HP.out y6)
  clear HV HC1 hw
  go_wp2
  clear kp fp kq fq
  generalize hW : V6.setCell ⟨g, c, none⟩ (.int .i64 (y6.toNat : Int)) = W7 at *
  clear hW
  obtain ⟨y7, hy7⟩ : ∃ y, y = rl 7 (y3 ^^^ y6) := ⟨_, rfl⟩
  obtain ⟨z, hz⟩ : ∃ z, z = y3 ^^^ y6 := ⟨_, rfl⟩
  have HC1 := Lib.hid (fun V => (show Calls Try.prog 54 #[.int .i64 (y3.toNat : Int), .int .i64 (y6.toNat : Int)] V fun e w' => e = .returned (.int .i64 (z.toNat : Int)) ∧ w' = V from (rxor_any y3 y6 V).mono fun e w' h => ⟨by rw [h.1, hz], h.2⟩))
  have HC2 := Lib.hid (fun V => (show Calls Try.prog 53 #[.int .i64 (z.toNat : Int), .int .i64 7] V fun e w' => e = .returned (.int .i64 (y7.toNat : Int)) ∧ w' = V from (rturn_any z 7 (by decide) V).mono fun e w' h => ⟨by rw [h.1, hy7, hz], h.2⟩))
  have HE7 := Lib.hid hy7
  clear hy7 hz
  refine wp_region_still_tail 12 (by kernel_rfl) (by kernel_rfl) ?_
  change wpStill _ _ W7.drew (fun a' => wpList _ _ _ _ a' W7.drew) _ _
  have HV := Lib.hid H7.out.drew
  clear H7
  generalize W7.drew = V7 at *
  obtain ⟨kp, fp⟩ := HV.out.cellB
  obtain ⟨kq, fq⟩ := HV.out.cellC
  simp only [List.take_succ_cons, List.take_zero, List.drop_succ_cons, List.drop_zero]
  repeat still_step
  still_call (HC1.out V7)
  repeat still_step
  still_call (HC2.out V7)
  repeat still_step
  refine wpStill_nil ?_
  have H8 := Lib.hid (HV.out.setB HP.out y7)
  clear HV HC1 HC2
  go_wp2
  clear kp fp kq fq
  go_ret
  have hl : (wn (qAt s a b c d)).length = L := by rw [wn_len, qAt_len, HL.out]
  obtain ⟨ha, hb, hc, hd⟩ := HIN.out
  obtain ⟨hxa, hxb, hxc, hxd⟩ := HX.out
  have hq : qr ⟨s.getD a 0, s.getD b 0, s.getD c 0, s.getD d 0⟩ = ⟨y4, y7, y6, y5⟩ := by
    rw [hxa, hxb, hxc, hxd, HE7.out, HE6.out, HE5.out, HE4.out, HE3.out, HE2.out, HE1.out, HE0.out]
    rfl
  refine ⟨g, cap, by rw [hl]; rfl, ?_, H8.out.grow, H8.out.base⟩
  rw [hl, HL.out]
  exact H8.out.done HP.out ha hb hc hd hq cap (by rw [← HL.out]; exact HCAP.out.1) HCAP.out.2
end Go.Proofs.Ytjcbdplbekecjaa

/-
  Operations on numbers and bytes at the steps of a region that draws, for layer 5's own words of the document.
-/
namespace Go.Proofs.Ytjcbdplbekecjaa
open Go.RowKit

section
variable {P : Program} {ops : Array Oper} {Q : Exit → Act → World → Prop} {n : Nat} {eff : List (Nat × Nat)} {w0 : World} {a0 : Act} {tail : List Oper}
/-- An operation that makes memory. -/
theorem Walk.makes {env : List (Value → World → Prop)} {k : Nat} {o : Oper} {rest : List Oper} {G : Value → World → Prop} (hl : StaysBut eff k G) (ho : ops[k]? = some o) (hdst : o.dst.isSome = true)
    (hs : ∀ a w, Mid2 ops n eff w0 a0 a w → Ahead eff k w0 w → Deps2 ops env.reverse o a w → Wanted ops o a ∧ ∃ v w', (execOp a.eval o).run P w = .ok (.value v) w' ∧ w.grownBy w' (rowAt eff k) ∧ G v w')
    (hc : Walk P ops Q n eff w0 a0 tail (k + 1) rest (G :: env)) : Walk P ops Q n eff w0 a0 tail k (o :: rest) env := by
  refine ⟨G, hl, fun a w hm ha hd => ?_, hc⟩
  obtain ⟨hw, v, w', hr, hg, hG⟩ := hs a w hm ha hd
  unfold wpOp
  rw [ho]
  simp only
  rw [if_pos (show Region.wanted o (yielded ops a.tmps) = true from hw)]
  refine .inl ?_
  unfold Oper.wp
  rw [hr, Oper.upon_value]
  exact ⟨v, rfl, hg, hG, fun h => by rw [h] at hdst; cases hdst⟩
end
theorem xor8' (a b : UInt8) : bits .xor .u8 (a.toNat : Int) (b.toNat : Int) = ((a ^^^ b).toNat : Int) := by
  rw [u8_xor_nat _ _ (UInt8.toNat_lt a) (UInt8.toNat_lt b), UInt8.toNat_xor]
section
variable {o : Oper} {a : Act} {w : World}
theorem ex_addn {x y : Operand} {p q : Nat} (r : Nat) (h : o.op = .binOp .add 3 x y 3) (hx : Is (.int .i64 (p : Int)) (a.eval x) w) (hy : Is (.int .i64 (q : Int)) (a.eval y) w) (hr : p + q = r) (hb : r ≤ 1000000000000000) : (execOp a.eval o).run Try.prog w = .ok (.value (.int .i64 (r : Int))) w := by
  have hx' : a.eval x = .int .i64 (p : Int) := hx
  have hy' : a.eval y = .int .i64 (q : Int) := hy
  have hw : IntKind.i64.wrap ((p : Int) + (q : Int)) = (r : Int) := by rw [IntKind.wrap_i64]; omega
  simp only [execOp, h, hx', hy']
  simp [go_sem, hw]
theorem ex_addc {x : Operand} {k : Nat} (r d : Nat) {e : Int} (he : e = (d : Int)) (h : o.op = .binOp .add 3 x (.const (.int .i64 e)) 3) (hx : Is (.int .i64 (k : Int)) (a.eval x) w) (hr : k + d = r) (hk : r ≤ 1000000) : (execOp a.eval o).run Try.prog w = .ok (.value (.int .i64 (r : Int))) w :=
  ex_addn r h hx (by rw [he]; rfl) hr (by omega)
theorem ex_mulc {x : Operand} {k : Nat} (r d : Nat) {e : Int} (he : e = (d : Int)) (h : o.op = .binOp .mul 3 x (.const (.int .i64 e)) 3) (hx : Is (.int .i64 (k : Int)) (a.eval x) w) (hr : k * d = r) (hb : r ≤ 1000000000000000) : (execOp a.eval o).run Try.prog w = .ok (.value (.int .i64 (r : Int))) w := by
  have hx' : a.eval x = .int .i64 (k : Int) := hx
  have hc : a.eval (.const (.int .i64 e)) = .int .i64 e := rfl
  have hw : IntKind.i64.wrap ((k : Int) * e) = (r : Int) := by
    rw [IntKind.wrap_i64, he, ← Int.natCast_mul, hr]; omega
  simp only [execOp, h, hx', hc]
  simp [go_sem, hw]
theorem ex_remc {x : Operand} {k : Nat} (r d : Nat) {e : Int} (he : e = (d : Int)) (hd : d ≠ 0) (h : o.op = .binOp .rem 3 x (.const (.int .i64 e)) 3) (hx : Is (.int .i64 (k : Int)) (a.eval x) w) (hr : k % d = r) : (execOp a.eval o).run Try.prog w = .ok (.value (.int .i64 (r : Int))) w := by
  have hx' : a.eval x = .int .i64 (k : Int) := hx
  have hc : a.eval (.const (.int .i64 e)) = .int .i64 e := rfl
  have hm : Int.tmod (k : Int) e = (r : Int) := by rw [he, ← Int.ofNat_tmod, hr]
  have h0 : ¬ e = 0 := by rw [he]; omega
  simp only [execOp, h, hx', hc]
  simp [go_sem, h0, hm]
theorem ex_idxI {x y : Operand} {ad : Addr} {n c k : Nat} (h : o.op = .indexAddr 56 x y) (hx : Is (.slice (some ad) n c) (a.eval x) w) (hy : Is (.int .i64 (k : Int)) (a.eval y) w) (hk : k < n) : (execOp a.eval o).run Try.prog w = .ok (.value (.pointer (some (ad.add k)))) w := by
  have hx' : a.eval x = .slice (some ad) n c := hx
  have hy' : a.eval y = .int .i64 (k : Int) := hy
  have hk' : (k : Int) < (n : Int) := by omega
  simp only [execOp, h, hx', hy']
  simp [go_sem, hk']
theorem ex_loadI {x : Operand} {ad : Addr} {z : Int} (h : o.op = .load 3 x) (hx : Is (.pointer (some ad)) (a.eval x) w) (hc : w.cell? ad = some (.int .i64 z)) : (execOp a.eval o).run Try.prog w = .ok (.value (.int .i64 z)) w := by
  have hx' : a.eval x = .pointer (some ad) := hx
  simp only [execOp, h, hx']
  simp [go_sem, hc]
theorem ex_idxB {x y : Operand} {ad : Addr} {n c k : Nat} (h : o.op = .indexAddr 24 x y) (hx : Is (.slice (some ad) n c) (a.eval x) w) (hy : Is (.int .i64 (k : Int)) (a.eval y) w) (hk : k < n) : (execOp a.eval o).run Try.prog w = .ok (.value (.pointer (some (ad.add k)))) w := by
  have hx' : a.eval x = .slice (some ad) n c := hx
  have hy' : a.eval y = .int .i64 (k : Int) := hy
  have hk' : (k : Int) < (n : Int) := by omega
  simp only [execOp, h, hx', hy']
  simp [go_sem, hk']
theorem ex_loadB {x : Operand} {ad : Addr} {z : Int} (h : o.op = .load 5 x) (hx : Is (.pointer (some ad)) (a.eval x) w) (hc : w.cell? ad = some (.int .u8 z)) : (execOp a.eval o).run Try.prog w = .ok (.value (.int .u8 z)) w := by
  have hx' : a.eval x = .pointer (some ad) := hx
  simp only [execOp, h, hx']
  simp [go_sem, hc]
theorem ex_convB {x : Operand} {z : Nat} (h : o.op = .convert 5 3 x) (hx : Is (.int .u8 (z : Int)) (a.eval x) w) (hz : z < 256) : (execOp a.eval o).run Try.prog w = .ok (.value (.int .i64 (z : Int))) w := by
  have hx' : a.eval x = .int .u8 (z : Int) := hx
  have hw : IntKind.i64.wrap (z : Int) = (z : Int) := by rw [IntKind.wrap_i64]; omega
  simp only [execOp, h, hx']
  simp [go_sem, hw]
theorem ex_xorB {x y : Operand} {p q : UInt8} (h : o.op = .binOp .xor 5 x y 5) (hx : Is (.int .u8 (p.toNat : Int)) (a.eval x) w) (hy : Is (.int .u8 (q.toNat : Int)) (a.eval y) w) : (execOp a.eval o).run Try.prog w = .ok (.value (.int .u8 ((p ^^^ q).toNat : Int))) w := by
  have hx' : a.eval x = .int .u8 (p.toNat : Int) := hx
  have hy' : a.eval y = .int .u8 (q.toNat : Int) := hy
  have hw := xor8' p q
  simp only [execOp, h, hx', hy']
  rw [← hw]
  generalize (p.toNat : Int) = u
  generalize (q.toNat : Int) = v
  simp [go_sem]
theorem ex_build1 {x : Operand} {z : Nat} (h : o.op = .buildSlice 56 1 #[(0, x)]) (hx : Is (.int .i64 (z : Int)) (a.eval x) w) : (execOp a.eval o).run Try.prog w = .ok (.value (.slice (some ⟨w.heap.size, 0, none⟩) 1 1)) (w.alloc (.cells #[.int .i64 (z : Int)] 3)) := by
  have hx' : a.eval x = .int .i64 (z : Int) := hx
  simp only [execOp, h, hx', List.map_toArray, List.map_cons, List.map_nil]
  go_simp
  try rfl
theorem ex_build1B {x : Operand} {z : Int} (h : o.op = .buildSlice 24 1 #[(0, x)]) (hx : Is (.int .u8 z) (a.eval x) w) : (execOp a.eval o).run Try.prog w = .ok (.value (.slice (some ⟨w.heap.size, 0, none⟩) 1 1)) (w.alloc (.cells #[.int .u8 z] 5)) := by
  have hx' : a.eval x = .int .u8 z := hx
  simp only [execOp, h, hx', List.map_toArray, List.map_cons, List.map_nil]
  go_simp
  try rfl
end
end Go.Proofs.Ytjcbdplbekecjaa

/-
  The document's own words of bytes, of layer 5, over this program.
-/
namespace Go.Proofs.Ytjcbdplbekecjaa
open Go.RowKit

theorem wn_app (a b : List W32) : wn (a ++ b) = wn a ++ wn b := by simp [wn]
theorem Rd.bytes {w : World} {ad : Addr} {n c : Nat} {b : List UInt8} (h : Rd w (.slice (some ad) n c) (bytesV b)) (j : Nat) (hj : j < b.length) : w.cell? (ad.add j) = some (.int .u8 ((b.getD j 0).toNat : Int)) := by
  obtain ⟨ad', e, hc⟩ := h.cells (by intro e; have := congrArg List.length e; rw [bytesV_len] at this; simp at this; subst this; simp at hj)
  injection e with e
  subst e
  exact hc j _ (bytesV_at b j hj)
theorem Rd.drew {w : World} {v : Value} {xs : List Value} (h : Rd w v xs) : Rd w.drew v xs := h

theorem own_keepI {w w' : World} {base n : Nat} {e : TypeId} {v : Value} {xs : List Value} (h : w.ownsRow base e 1 v n xs) (hg : w.grownBy w' none) : w'.ownsRow base e 1 v n xs := h.kept hg (Classical.em _)
/-- An append onto a row of the call's own turns nothing old. -/
theorem grown_app {w W W' : World} {n : Nat} {e : TypeId} {v : Value} {xs : List Value} (h : w.grownBy W none) (ho : W.ownsRow w.heap.size e 1 v n xs) (k : W.grownBy W' v.ownBlock) : w.grownBy W' none :=
  grown_new h k (fun b hv => by
    rcases ho.2 with ⟨rfl, _⟩ | ⟨g, cap, cur, rfl, hg, _⟩
    · cases hv
    · cases hv; exact hg)

set_option maxHeartbeats 4000000 in
theorem rwords_any (v : Value) (b : List UInt8) (Q : Nat) (hb : b.length = 4 * Q) (hQ : 0 < Q) (hQ8 : Q ≤ 8) (w : World) (hr : Rd w v (bytesV b)) :
    Calls Try.prog 33 #[v] w (OutI w (wn (lewords b Q))) := by
  obtain ⟨n, hn⟩ : ∃ n, n = b.length := ⟨_, rfl⟩
  obtain ⟨A, c, rfl⟩ := hr.form
  rw [bytesV_len, ← hn] at hr ⊢
  obtain ⟨ad, rfl, _⟩ := hr.cells (by intro e; have := congrArg List.length e; rw [bytesV_len] at this; simp at this; subst this; simp at hb; omega)
  have HR := Lib.hid hr
  have HB := Lib.hid hb
  have HN := Lib.hid hn
  have hn32 : n ≤ 32 := by omega
  clear hr hb hn
  go_enter Try.func33, Try.ntmps33
  go_wp2
  go_loopw [3, 4] (fun u i W => ∃ q p : Nat, q ≤ Q ∧ p = 4 * q ∧ i = .int .i64 p ∧ W.ownsRow w.heap.size 3 1 u q (intsV (wn (lewords b q))) ∧ w.grownBy W none) (fun _ i _ => 32 - (intOf i).toNat)
  case atStart => exact ⟨0, 0, Nat.zero_le _, rfl, rfl, World.ownsRow_nil _ _ _ _, grown_refl _ _⟩
  case round =>
    obtain ⟨q, p, hq, hp, rfl, ho, hg⟩ := hrel
    have HO := Lib.hid ho
    have HG := Lib.hid hg
    have HP := Lib.hid (And.intro hq hp)
    have hp32 : p ≤ 32 := by omega
    by_cases hlt : q < Q
    · have hin : p + 3 < n := by have := HB.out; have := HN.out; omega
      have hr1 := HR.out.grown0 hg
      have c0 := hr1.bytes p (by have := HN.out; omega)
      have c1 := hr1.bytes (p + 1) (by have := HN.out; omega)
      have c2 := hr1.bytes (p + 2) (by have := HN.out; omega)
      have c3 := hr1.bytes (p + 3) (by have := HN.out; omega)
      have hle : le4N b p = (b.getD p 0).toNat + (b.getD (p + 1) 0).toNat * 256 + (b.getD (p + 2) 0).toNat * 65536 + (b.getD (p + 3) 0).toNat * 16777216 := rfl
      have b0 := UInt8.toNat_lt (b.getD p 0)
      have b1 := UInt8.toNat_lt (b.getD (p + 1) 0)
      have b2 := UInt8.toNat_lt (b.getD (p + 2) 0)
      have b3 := UInt8.toNat_lt (b.getD (p + 3) 0)
      generalize (b.getD p 0).toNat = z0 at *
      generalize (b.getD (p + 1) 0).toNat = z1 at *
      generalize (b.getD (p + 2) 0).toNat = z2 at *
      generalize (b.getD (p + 3) 0).toNat = z3 at *
      obtain ⟨z, hz⟩ : ∃ z, z = (le4 b p).toNat := ⟨_, rfl⟩
      rw [le4_nat, hle] at hz
      obtain ⟨p1, hp1⟩ : ∃ x, p + 1 = x := ⟨_, rfl⟩
      obtain ⟨p2, hp2⟩ : ∃ x, p + 2 = x := ⟨_, rfl⟩
      obtain ⟨p3, hp3⟩ : ∃ x, p + 3 = x := ⟨_, rfl⟩
      rw [hp1] at c1
      rw [hp2] at c2
      rw [hp3] at c3
      obtain ⟨m1, hm1⟩ : ∃ x, z1 * 256 = x := ⟨_, rfl⟩
      obtain ⟨m2, hm2⟩ : ∃ x, z2 * 65536 = x := ⟨_, rfl⟩
      obtain ⟨m3, hm3⟩ : ∃ x, z3 * 16777216 = x := ⟨_, rfl⟩
      obtain ⟨s1, hs1⟩ : ∃ x, z0 + m1 = x := ⟨_, rfl⟩
      obtain ⟨s2, hs2⟩ : ∃ x, s1 + m2 = x := ⟨_, rfl⟩
      have HP1 := Lib.hid hp1
      have HP2 := Lib.hid hp2
      have HP3 := Lib.hid hp3
      have HM1 := Lib.hid hm1
      have HM2 := Lib.hid hm2
      have HM3 := Lib.hid hm3
      have HS1 := Lib.hid hs1
      have HS2 := Lib.hid hs2
      have HS3 := Lib.hid (show s2 + m3 = z by omega)
      have HC0 := Lib.hid (fun (W : World) (hW : wr.grownBy W none) => (show W.cell? (ad.add p) = some (.int .u8 (z0 : Int)) from (World.cell?_of_block (hW.block _ (World.block_lt_of_cell? wr _ c0) (by simp))).trans c0))
      have HC1 := Lib.hid (fun (W : World) (hW : wr.grownBy W none) => (show W.cell? (ad.add p1) = some (.int .u8 (z1 : Int)) from (World.cell?_of_block (hW.block _ (World.block_lt_of_cell? wr _ c1) (by simp))).trans c1))
      have HC2 := Lib.hid (fun (W : World) (hW : wr.grownBy W none) => (show W.cell? (ad.add p2) = some (.int .u8 (z2 : Int)) from (World.cell?_of_block (hW.block _ (World.block_lt_of_cell? wr _ c2) (by simp))).trans c2))
      have HC3 := Lib.hid (fun (W : World) (hW : wr.grownBy W none) => (show W.cell? (ad.add p3) = some (.int .u8 (z3 : Int)) from (World.cell?_of_block (hW.block _ (World.block_lt_of_cell? wr _ c3) (by simp))).trans c3))
      have HZ := Lib.hid (show intsV (wn (lewords b (q + 1))) = intsV (wn (lewords b q)) ++ intsV [z] by
        rw [lewords_succ, wn_app, intsV_app, show wn [le4 b (4 * q)] = [(le4 b (4 * q)).toNat] from rfl, ← HP.out.2, le4_nat, hle, hz])
      have hb1 : p1 < n := by omega
      have hb2 : p2 < n := by omega
      have hb3 : p3 < n := by omega
      have hb4 : m1 ≤ 65280 := by omega
      have hb5 : m2 ≤ 16711680 := by omega
      have hb6 : m3 ≤ 4278190080 := by omega
      have hb7 : s1 ≤ 65535 := by omega
      have hb8 : s2 ≤ 16777215 := by omega
      have hb9 : z ≤ 4294967295 := by omega
      clear hle hz ho hg hr1 hq hp hp1 hp2 hp3 hm1 hm2 hm3 hs1 hs2 c0 c1 c2 c3
      go_wp2
      refine wp_region_walk3 31 [] dis_nil (by kernel_rfl) (by kernel_rfl) (by kernel_rfl) ?_
      simp only [List.take_succ_cons, List.take_zero, List.drop_succ_cons, List.drop_zero]
      refine Walk.val (G := Is (u3)) (stays_is _ _) rfl rfl (fun a w hm hd => ⟨wanted_plain rfl, _, ex_move rfl, by rw [hm.outer 3 (by kernel_rfl)]; rfl⟩) ?_
      refine Walk.val (G := Is (.slice (some ad) n c)) (stays_is _ _) rfl rfl (fun a w hm hd => ⟨wanted_plain rfl, _, ex_move rfl, by rw [hm.outer 0 (by kernel_rfl)]; rfl⟩) ?_
      refine Walk.val (G := Is (.int .i64 (p : Int))) (stays_is _ _) rfl rfl (fun a w hm hd => ⟨wanted_plain rfl, _, ex_move rfl, by rw [hm.outer 4 (by kernel_rfl)]; rfl⟩) ?_
      refine Walk.val (G := Is (.pointer (some (ad.add p)))) (stays_is _ _) rfl rfl (fun a w hm hd => ⟨wanted_plain rfl, _, ex_idxB rfl (hd.at_ 1 rfl rfl rfl rfl) (hd.at_ 2 rfl rfl rfl rfl) (by omega), rfl⟩) ?_
      refine Walk.val (G := Is (.int .u8 (z0 : Int))) (stays_is _ _) rfl rfl (fun a w hm hd => ⟨wanted_plain rfl, _, ex_loadB rfl (hd.at_ 3 rfl rfl rfl rfl) (HC0.out w hm.grow.none2), rfl⟩) ?_
      refine Walk.val (G := Is (.int .i64 (z0 : Int))) (stays_is _ _) rfl rfl (fun a w hm hd => ⟨wanted_plain rfl, _, ex_convB rfl (hd.at_ 4 rfl rfl rfl rfl) b0, rfl⟩) ?_
      refine Walk.val (G := Is (.slice (some ad) n c)) (stays_is _ _) rfl rfl (fun a w hm hd => ⟨wanted_plain rfl, _, ex_move rfl, by rw [hm.outer 0 (by kernel_rfl)]; rfl⟩) ?_
      refine Walk.val (G := Is (.int .i64 (p : Int))) (stays_is _ _) rfl rfl (fun a w hm hd => ⟨wanted_plain rfl, _, ex_move rfl, by rw [hm.outer 4 (by kernel_rfl)]; rfl⟩) ?_
      refine Walk.val (G := Is (.int .i64 (p1 : Int))) (stays_is _ _) rfl rfl (fun a w hm hd => ⟨wanted_plain rfl, _, ex_addc p1 1 rfl rfl (hd.at_ 7 rfl rfl rfl rfl) HP1.out (by omega), rfl⟩) ?_
      refine Walk.val (G := Is (.pointer (some (ad.add p1)))) (stays_is _ _) rfl rfl (fun a w hm hd => ⟨wanted_plain rfl, _, ex_idxB rfl (hd.at_ 6 rfl rfl rfl rfl) (hd.at_ 8 rfl rfl rfl rfl) (by omega), rfl⟩) ?_
      refine Walk.val (G := Is (.int .u8 (z1 : Int))) (stays_is _ _) rfl rfl (fun a w hm hd => ⟨wanted_plain rfl, _, ex_loadB rfl (hd.at_ 9 rfl rfl rfl rfl) (HC1.out w hm.grow.none2), rfl⟩) ?_
      refine Walk.val (G := Is (.int .i64 (z1 : Int))) (stays_is _ _) rfl rfl (fun a w hm hd => ⟨wanted_plain rfl, _, ex_convB rfl (hd.at_ 10 rfl rfl rfl rfl) b1, rfl⟩) ?_
      refine Walk.val (G := Is (.int .i64 (m1 : Int))) (stays_is _ _) rfl rfl (fun a w hm hd => ⟨wanted_plain rfl, _, ex_mulc m1 256 rfl rfl (hd.at_ 11 rfl rfl rfl rfl) HM1.out (by omega), rfl⟩) ?_
      refine Walk.val (G := Is (.int .i64 (s1 : Int))) (stays_is _ _) rfl rfl (fun a w hm hd => ⟨wanted_plain rfl, _, ex_addn s1 rfl (hd.at_ 5 rfl rfl rfl rfl) (hd.at_ 12 rfl rfl rfl rfl) HS1.out (by omega), rfl⟩) ?_
      refine Walk.val (G := Is (.slice (some ad) n c)) (stays_is _ _) rfl rfl (fun a w hm hd => ⟨wanted_plain rfl, _, ex_move rfl, by rw [hm.outer 0 (by kernel_rfl)]; rfl⟩) ?_
      refine Walk.val (G := Is (.int .i64 (p : Int))) (stays_is _ _) rfl rfl (fun a w hm hd => ⟨wanted_plain rfl, _, ex_move rfl, by rw [hm.outer 4 (by kernel_rfl)]; rfl⟩) ?_
      refine Walk.val (G := Is (.int .i64 (p2 : Int))) (stays_is _ _) rfl rfl (fun a w hm hd => ⟨wanted_plain rfl, _, ex_addc p2 2 rfl rfl (hd.at_ 15 rfl rfl rfl rfl) HP2.out (by omega), rfl⟩) ?_
      refine Walk.val (G := Is (.pointer (some (ad.add p2)))) (stays_is _ _) rfl rfl (fun a w hm hd => ⟨wanted_plain rfl, _, ex_idxB rfl (hd.at_ 14 rfl rfl rfl rfl) (hd.at_ 16 rfl rfl rfl rfl) (by omega), rfl⟩) ?_
      refine Walk.val (G := Is (.int .u8 (z2 : Int))) (stays_is _ _) rfl rfl (fun a w hm hd => ⟨wanted_plain rfl, _, ex_loadB rfl (hd.at_ 17 rfl rfl rfl rfl) (HC2.out w hm.grow.none2), rfl⟩) ?_
      refine Walk.val (G := Is (.int .i64 (z2 : Int))) (stays_is _ _) rfl rfl (fun a w hm hd => ⟨wanted_plain rfl, _, ex_convB rfl (hd.at_ 18 rfl rfl rfl rfl) b2, rfl⟩) ?_
      refine Walk.val (G := Is (.int .i64 (m2 : Int))) (stays_is _ _) rfl rfl (fun a w hm hd => ⟨wanted_plain rfl, _, ex_mulc m2 65536 rfl rfl (hd.at_ 19 rfl rfl rfl rfl) HM2.out (by omega), rfl⟩) ?_
      refine Walk.val (G := Is (.int .i64 (s2 : Int))) (stays_is _ _) rfl rfl (fun a w hm hd => ⟨wanted_plain rfl, _, ex_addn s2 rfl (hd.at_ 13 rfl rfl rfl rfl) (hd.at_ 20 rfl rfl rfl rfl) HS2.out (by omega), rfl⟩) ?_
      refine Walk.val (G := Is (.slice (some ad) n c)) (stays_is _ _) rfl rfl (fun a w hm hd => ⟨wanted_plain rfl, _, ex_move rfl, by rw [hm.outer 0 (by kernel_rfl)]; rfl⟩) ?_
      refine Walk.val (G := Is (.int .i64 (p : Int))) (stays_is _ _) rfl rfl (fun a w hm hd => ⟨wanted_plain rfl, _, ex_move rfl, by rw [hm.outer 4 (by kernel_rfl)]; rfl⟩) ?_
      refine Walk.val (G := Is (.int .i64 (p3 : Int))) (stays_is _ _) rfl rfl (fun a w hm hd => ⟨wanted_plain rfl, _, ex_addc p3 3 rfl rfl (hd.at_ 23 rfl rfl rfl rfl) HP3.out (by omega), rfl⟩) ?_
      refine Walk.val (G := Is (.pointer (some (ad.add p3)))) (stays_is _ _) rfl rfl (fun a w hm hd => ⟨wanted_plain rfl, _, ex_idxB rfl (hd.at_ 22 rfl rfl rfl rfl) (hd.at_ 24 rfl rfl rfl rfl) (by omega), rfl⟩) ?_
      refine Walk.val (G := Is (.int .u8 (z3 : Int))) (stays_is _ _) rfl rfl (fun a w hm hd => ⟨wanted_plain rfl, _, ex_loadB rfl (hd.at_ 25 rfl rfl rfl rfl) (HC3.out w hm.grow.none2), rfl⟩) ?_
      refine Walk.val (G := Is (.int .i64 (z3 : Int))) (stays_is _ _) rfl rfl (fun a w hm hd => ⟨wanted_plain rfl, _, ex_convB rfl (hd.at_ 26 rfl rfl rfl rfl) b3, rfl⟩) ?_
      refine Walk.val (G := Is (.int .i64 (m3 : Int))) (stays_is _ _) rfl rfl (fun a w hm hd => ⟨wanted_plain rfl, _, ex_mulc m3 16777216 rfl rfl (hd.at_ 27 rfl rfl rfl rfl) HM3.out (by omega), rfl⟩) ?_
      refine Walk.val (G := Is (.int .i64 (z : Int))) (stays_is _ _) rfl rfl (fun a w hm hd => ⟨wanted_plain rfl, _, ex_addn z rfl (hd.at_ 21 rfl rfl rfl rfl) (hd.at_ 28 rfl rfl rfl rfl) HS3.out (by omega), rfl⟩) ?_
      refine Walk.makes (G := fun v W => Rd W v (intsV [z])) (fun _ _ _ _ _ h hg => Rd.grown0 h hg) rfl rfl (fun a w hm _ hd => ⟨wanted_plain rfl, _, _, ex_build1 (z := z) rfl (hd.at_ 29 rfl rfl rfl rfl), grown_alloc (grown_refl _ _) _, Rd.one w (intV z) 3⟩) ?_
      intro a9 V hm9 hall
      have f12 : a9.eval (.tmp 12) = u3 := hall 0 _ _ rfl rfl
      have f42 : Rd V (a9.eval (.tmp 42)) (intsV [z]) := hall 30 _ _ rfl rfl
      have hg9 : wr.grownBy V none := GrownX.none2 hm9.grow
      have HF := Lib.hid hm9.frame
      refine wpList_append_ints _ rfl _ _ rfl w.heap.size _ q _ f12 (own_keepI HO.out hg9) _ [z] rfl f42 (by have := HP.out.1; simp; omega) (by have := (HG.out.trans hg9).size; omega) ?_
      intro v' w' ho' hg' _
      rw [← HZ.out] at ho'
      have HO2 := Lib.hid ho'
      have HG2 := Lib.hid (grown_app (HG.out.trans hg9) (own_keepI HO.out hg9) hg')
      rw [HF.out]
      simp only [List.take_succ_cons, List.take_zero, List.filterMap_cons, List.filterMap_nil, List.foldl_cons, List.foldl_nil]
      clear f12 f42 hg9 HF ho' hg'
      generalize a9.eval (.tmp 12) = e12
      generalize a9.eval (.tmp 13) = e13
      generalize a9.eval (.tmp 14) = e14
      generalize a9.eval (.tmp 15) = e15
      generalize a9.eval (.tmp 16) = e16
      generalize a9.eval (.tmp 17) = e17
      generalize a9.eval (.tmp 18) = e18
      generalize a9.eval (.tmp 19) = e19
      generalize a9.eval (.tmp 20) = e20
      generalize a9.eval (.tmp 21) = e21
      generalize a9.eval (.tmp 22) = e22
      generalize a9.eval (.tmp 23) = e23
      generalize a9.eval (.tmp 24) = e24
      generalize a9.eval (.tmp 25) = e25
      generalize a9.eval (.tmp 26) = e26
      generalize a9.eval (.tmp 27) = e27
      generalize a9.eval (.tmp 28) = e28
      generalize a9.eval (.tmp 29) = e29
      generalize a9.eval (.tmp 30) = e30
      generalize a9.eval (.tmp 31) = e31
      generalize a9.eval (.tmp 32) = e32
      generalize a9.eval (.tmp 33) = e33
      generalize a9.eval (.tmp 34) = e34
      generalize a9.eval (.tmp 35) = e35
      generalize a9.eval (.tmp 36) = e36
      generalize a9.eval (.tmp 37) = e37
      generalize a9.eval (.tmp 38) = e38
      generalize a9.eval (.tmp 39) = e39
      generalize a9.eval (.tmp 40) = e40
      generalize a9.eval (.tmp 41) = e41
      generalize a9.eval (.tmp 42) = e42
      clear hm9 hall
      simp only [Act.put, List.setIfInBounds_toArray, List.set_cons_succ, List.set_cons_zero]
      go_wp2
      go_roundw
      case rel => exact ⟨q + 1, p + 4, by omega, by have := HP.out.2; omega, by go_num, HO2.out, HG2.out⟩
      case measure => simp [intOf]; omega
    · have hout : ¬ p + 3 < n := by have := HB.out; have := HN.out; omega
      obtain rfl : q = Q := by omega
      clear ho hg hq hp
      go_wp2
      go_ret
      exact ⟨_, rfl, Rd.of_own HO.out, HG.out⟩
end Go.Proofs.Ytjcbdplbekecjaa

/-
  The document's own Block of layer 5 over this program.
-/
namespace Go.Proofs.Ytjcbdplbekecjaa
open Go.RowKit

theorem Row.rdp {w : World} {g : Nat} {t : TypeId} {cs : List Value} (h : Row w g t cs) (n : Nat) (hn : cs.length = n) (hm : n ≤ maxLen) : Rd w (.slice (some ⟨g, 0, none⟩) n n) cs := by
  subst hn
  refine ⟨_, _, rfl, Nat.le_refl _, hm, fun _ => ⟨_, rfl, fun j u hu => ?_⟩⟩
  have : (⟨g, 0, none⟩ : Addr).add j = ⟨g, j, none⟩ := by unfold Addr.add; split <;> simp_all
  rw [this]
  exact h.cell hu
theorem own_sigma (w : World) : (w.alloc (.cells #[.int .i64 1634760805, .int .i64 857760878, .int .i64 2036477234, .int .i64 1797285236] 3)).ownsRow w.heap.size 3 1 (.slice (some ⟨w.heap.size, 0, none⟩) 4 4) 4 (intsV (wn sigma)) :=
  ⟨rfl, .inr ⟨w.heap.size, 4, _, rfl, Nat.le_refl _, heap_alloc_last w _, Nat.le_refl _, by decide, rfl, rfl⟩⟩
theorem add_zero' (g k : Nat) : (⟨g, 0, none⟩ : Addr).add k = ⟨g, k, none⟩ := by unfold Addr.add; split <;> simp_all
theorem wn_one (x : W32) : wn [x] = [x.toNat] := rfl
theorem Rd.i64 {w : World} {ad : Addr} {n c : Nat} {l : List W32} (h : Rd w (.slice (some ad) n c) (intsV (wn l))) (j : Nat) (hj : j < l.length) : w.cell? (ad.add j) = some (.int .i64 ((l.getD j 0).toNat : Int)) := by
  obtain ⟨ad', e, hc⟩ := h.num j (by rw [wn_len]; exact hj)
  injection e with e
  subst e
  rw [hc, wn_at l j hj]
theorem tel_takes (l : List W32) (k : Nat) (h : k < l.length) (x : W32) (hx : l.getD k 0 = x) : bytesV (tel (l.take (k + 1))) = bytesV (tel (l.take k)) ++ bytesV (tel1 x) := by
  rw [tel_succ l k h, bytesV_app, hx]

set_option maxHeartbeats 8000000 in
set_option maxRecDepth 100000 in
theorem rblock_any (v0 v2 : Value) (key : List UInt8) (hk : key.length = 32) (n : W32) (nonce : List UInt8) (hn : nonce.length = 12) (w : World) (h0 : Rd w v0 (bytesV key)) (h2 : Rd w v2 (bytesV nonce)) :
    Calls Try.prog 20 #[v0, .int .i64 (n.toNat : Int), v2] w (Out w (blok key n nonce)) := by
  have HK := Lib.hid hk
  have HN := Lib.hid hn
  have H0 := Lib.hid h0
  have H2 := Lib.hid h2
  have HBL := Lib.hid (show blok key n nonce = tel (lastW key n nonce) from rfl)
  have HLW := Lib.hid (show lastW key n nonce = List.zipWith (· + ·) (allQs 10 (firstW key n nonce)) (firstW key n nonce) from rfl)
  have HFW := Lib.hid (show intsV (wn (firstW key n nonce)) = intsV (wn sigma) ++ (intsV (wn (lewords key 8)) ++ (intsV [n.toNat] ++ intsV (wn (lewords nonce 3)))) by
    unfold firstW
    rw [wn_app, wn_app, wn_app, intsV_app, intsV_app, intsV_app, wn_one, List.append_assoc, List.append_assoc])
  have HFL := Lib.hid (firstW_len key n nonce)
  have hnlt := n.isLt
  clear hk hn h0 h2
  go_enter Try.func20, Try.ntmps20
  go_wp2_with fail
  have HG0 := Lib.hid (grown_alloc (grown_refl w none) (.cells #[.int .i64 1634760805, .int .i64 857760878, .int .i64 2036477234, .int .i64 1797285236] 3))
  have HO0 := Lib.hid (own_sigma w)
  refine (rwords_any _ key 8 (by rw [HK.out]) (by decide) (by decide) _ (H0.out.grown0 HG0.out)).mono ?_
  rintro e w1 ⟨u1, rfl, hr1, hg1⟩
  have HO1 := Lib.hid (own_keepI HO0.out hg1)
  have HG1 := Lib.hid (HG0.out.trans hg1)
  have HR1 := Lib.hid hr1
  clear hr1 hg1 HO0 HG0
  go_wp2_with (at_builtin; refine wpList_append_ints _ rfl _ _ rfl w.heap.size _ 4 _ rfl HO1.out _ (wn (lewords key 8)) rfl HR1.out ?_ ?_ ?_)
  · rw [wn_len, lewords_len]; decide
  · exact HG1.out.size
  intro v3 w3 ho3 hg3 _
  rw [wn_len, lewords_len] at ho3
  have HO3 := Lib.hid ho3
  have HG3 := Lib.hid (grown_app HG1.out HO1.out hg3)
  clear ho3 hg3 HO1 HG1 HR1
  have HOA := Lib.hid (own_keepI HO3.out (grown_alloc (grown_refl _ none) (.cells #[.int .i64 (n.toNat : Int)] 3)))
  have HGA := Lib.hid (grown_alloc HG3.out (.cells #[.int .i64 (n.toNat : Int)] 3))
  go_wp2_with (at_builtin; refine wpList_append_ints _ rfl _ _ rfl w.heap.size _ (4 + 8) _ rfl HOA.out _ [n.toNat] rfl (Rd.one w3 (intV n.toNat) 3) ?_ ?_ ?_)
  · simp
  · exact HGA.out.size
  intro v4 w4 ho4 hg4 _
  have HO4 := Lib.hid ho4
  have HG4 := Lib.hid (grown_app HGA.out HOA.out hg4)
  clear ho4 hg4 HOA HGA HO3 HG3
  go_wp2_with fail
  refine (rwords_any _ nonce 3 (by rw [HN.out]) (by decide) (by decide) _ (H2.out.grown0 HG4.out)).mono ?_
  rintro e w5 ⟨u5, rfl, hr5, hg5⟩
  have HO5 := Lib.hid (own_keepI HO4.out hg5)
  have HG5 := Lib.hid (HG4.out.trans hg5)
  have HR5 := Lib.hid hr5
  clear hr5 hg5 HO4 HG4
  go_wp2_with (at_builtin; refine wpList_append_ints _ rfl _ _ rfl w.heap.size _ _ _ rfl HO5.out _ (wn (lewords nonce 3)) rfl HR5.out ?_ ?_ ?_)
  · rw [wn_len, lewords_len]; decide
  · exact HG5.out.size
  intro v6 w6 ho6 hg6 _
  rw [wn_len, lewords_len, ← HFW.out] at ho6
  replace ho6 : w6.ownsRow w.heap.size 3 1 v6 16 (intsV (wn (firstW key n nonce))) := ho6
  have hrs := Rd.of_own ho6
  have HG6 := Lib.hid (grown_app HG5.out HO5.out hg6)
  clear hg6 HO5 HG5 HR5 HFW H0 H2
  obtain ⟨_, ⟨rfl, h16⟩ | ⟨g6, cap6, cur6, rfl, _, _, _, _, _, _⟩⟩ := ho6
  · exact absurd h16 (by decide)
  generalize hF : firstW key n nonce = F at *
  have HRS := Lib.hid (show Rd w6 (.slice (some ⟨g6, 0, none⟩) 16 cap6) (intsV (wn F)) from hrs)
  clear hF hrs
  go_wp2
  go_loopw [8, 9] (fun u i W => ∃ (k g cap : Nat), k ≤ 10 ∧ i = .int .i64 k ∧ u = .slice (some ⟨g, 0, none⟩) 16 cap ∧ Rd W u (intsV (wn (allQs k F))) ∧ Rd W (.slice (some ⟨g6, 0, none⟩) 16 cap6) (intsV (wn F)) ∧ w.grownBy W none) (fun _ i _ => 10 - (intOf i).toNat)
  case atStart => exact ⟨0, g6, cap6, Nat.zero_le _, rfl, rfl, HRS.out, HRS.out, HG6.out⟩
  case round =>
    clear HRS HG6
    obtain ⟨k, g, cap, hk, rfl, rfl, hr, hrf, hg⟩ := hrel
    have HR := Lib.hid hr
    have HRF := Lib.hid hrf
    have HG := Lib.hid hg
    have HSL := Lib.hid (show (allQs k F).length = 16 by rw [allQs_len, HFL.out])
    clear hr hrf hg
    by_cases hlt : k < 10
    · have HNX := Lib.hid (show allQs (k + 1) F = allQ (allQs k F) from rfl)
      have HAL := Lib.hid (show ∀ s, allQ s = qAt (qAt (qAt (qAt (qAt (qAt (qAt (qAt s 0 4 8 12) 1 5 9 13) 2 6 10 14) 3 7 11 15) 0 5 10 15) 1 6 11 12) 2 7 8 13) 3 4 9 14 from fun _ => rfl)
      rw [HAL.out] at HNX
      have HKK := Lib.hid (And.intro hk hlt)
      have hdec : decide ((k : Int) < 10) = true := by simp; omega
      clear hlt
      generalize allQs k F = S0 at *
      have HL0 := HSL
      have HR0 := HR
      have HF0 := HRF
      have HG0 := HG
      clear HR HRF HG HSL HAL
      go_wp2_with fail
      refine (rquarter_any _ S0 0 4 8 12 ⟨by decide, by decide, by decide, by decide, by decide, by decide⟩ (by rw [HL0.out]; decide) (by rw [HL0.out]; decide) (by rw [HL0.out]; decide) (by rw [HL0.out]; decide) (by rw [HL0.out]; decide) _ HR0.out).mono ?_
      rintro e x1 ⟨g1, cap1, rfl, hr, hg, _⟩
      have HL1 := Lib.hid (show (qAt S0 0 4 8 12).length = 16 by rw [qAt_len, HL0.out])
      have hl : (wn (qAt S0 0 4 8 12)).length = 16 := by rw [wn_len, HL1.out]
      rw [hl] at hr
      rw [hl]
      have HR1 := Lib.hid hr
      have HF1 := Lib.hid (HF0.out.grown0 hg)
      have HG1 := Lib.hid (HG0.out.trans hg)
      clear hr hg hl HR0 HF0 HG0 HL0
      generalize qAt S0 0 4 8 12 = S1 at *
      go_wp2_with fail
      refine (rquarter_any _ S1 1 5 9 13 ⟨by decide, by decide, by decide, by decide, by decide, by decide⟩ (by rw [HL1.out]; decide) (by rw [HL1.out]; decide) (by rw [HL1.out]; decide) (by rw [HL1.out]; decide) (by rw [HL1.out]; decide) _ HR1.out).mono ?_
      rintro e x2 ⟨g2, cap2, rfl, hr, hg, _⟩
      have HL2 := Lib.hid (show (qAt S1 1 5 9 13).length = 16 by rw [qAt_len, HL1.out])
      have hl : (wn (qAt S1 1 5 9 13)).length = 16 := by rw [wn_len, HL2.out]
      rw [hl] at hr
      rw [hl]
      have HR2 := Lib.hid hr
      have HF2 := Lib.hid (HF1.out.grown0 hg)
      have HG2 := Lib.hid (HG1.out.trans hg)
      clear hr hg hl HR1 HF1 HG1 HL1
      generalize qAt S1 1 5 9 13 = S2 at *
      go_wp2_with fail
      refine (rquarter_any _ S2 2 6 10 14 ⟨by decide, by decide, by decide, by decide, by decide, by decide⟩ (by rw [HL2.out]; decide) (by rw [HL2.out]; decide) (by rw [HL2.out]; decide) (by rw [HL2.out]; decide) (by rw [HL2.out]; decide) _ HR2.out).mono ?_
      rintro e x3 ⟨g3, cap3, rfl, hr, hg, _⟩
      have HL3 := Lib.hid (show (qAt S2 2 6 10 14).length = 16 by rw [qAt_len, HL2.out])
      have hl : (wn (qAt S2 2 6 10 14)).length = 16 := by rw [wn_len, HL3.out]
      rw [hl] at hr
      rw [hl]
      have HR3 := Lib.hid hr
      have HF3 := Lib.hid (HF2.out.grown0 hg)
      have HG3 := Lib.hid (HG2.out.trans hg)
      clear hr hg hl HR2 HF2 HG2 HL2
      generalize qAt S2 2 6 10 14 = S3 at *
      go_wp2_with fail
      refine (rquarter_any _ S3 3 7 11 15 ⟨by decide, by decide, by decide, by decide, by decide, by decide⟩ (by rw [HL3.out]; decide) (by rw [HL3.out]; decide) (by rw [HL3.out]; decide) (by rw [HL3.out]; decide) (by rw [HL3.out]; decide) _ HR3.out).mono ?_
      rintro e x4 ⟨g4, cap4, rfl, hr, hg, _⟩
      have HL4 := Lib.hid (show (qAt S3 3 7 11 15).length = 16 by rw [qAt_len, HL3.out])
      have hl : (wn (qAt S3 3 7 11 15)).length = 16 := by rw [wn_len, HL4.out]
      rw [hl] at hr
      rw [hl]
      have HR4 := Lib.hid hr
      have HF4 := Lib.hid (HF3.out.grown0 hg)
      have HG4 := Lib.hid (HG3.out.trans hg)
      clear hr hg hl HR3 HF3 HG3 HL3
      generalize qAt S3 3 7 11 15 = S4 at *
      go_wp2_with fail
      refine (rquarter_any _ S4 0 5 10 15 ⟨by decide, by decide, by decide, by decide, by decide, by decide⟩ (by rw [HL4.out]; decide) (by rw [HL4.out]; decide) (by rw [HL4.out]; decide) (by rw [HL4.out]; decide) (by rw [HL4.out]; decide) _ HR4.out).mono ?_
      rintro e x5 ⟨g5, cap5, rfl, hr, hg, _⟩
      have HL5 := Lib.hid (show (qAt S4 0 5 10 15).length = 16 by rw [qAt_len, HL4.out])
      have hl : (wn (qAt S4 0 5 10 15)).length = 16 := by rw [wn_len, HL5.out]
      rw [hl] at hr
      rw [hl]
      have HR5 := Lib.hid hr
      have HF5 := Lib.hid (HF4.out.grown0 hg)
      have HG5 := Lib.hid (HG4.out.trans hg)
      clear hr hg hl HR4 HF4 HG4 HL4
      generalize qAt S4 0 5 10 15 = S5 at *
      go_wp2_with fail
      refine (rquarter_any _ S5 1 6 11 12 ⟨by decide, by decide, by decide, by decide, by decide, by decide⟩ (by rw [HL5.out]; decide) (by rw [HL5.out]; decide) (by rw [HL5.out]; decide) (by rw [HL5.out]; decide) (by rw [HL5.out]; decide) _ HR5.out).mono ?_
      rintro e x6 ⟨g6, cap6, rfl, hr, hg, _⟩
      have HL6 := Lib.hid (show (qAt S5 1 6 11 12).length = 16 by rw [qAt_len, HL5.out])
      have hl : (wn (qAt S5 1 6 11 12)).length = 16 := by rw [wn_len, HL6.out]
      rw [hl] at hr
      rw [hl]
      have HR6 := Lib.hid hr
      have HF6 := Lib.hid (HF5.out.grown0 hg)
      have HG6 := Lib.hid (HG5.out.trans hg)
      clear hr hg hl HR5 HF5 HG5 HL5
      generalize qAt S5 1 6 11 12 = S6 at *
      go_wp2_with fail
      refine (rquarter_any _ S6 2 7 8 13 ⟨by decide, by decide, by decide, by decide, by decide, by decide⟩ (by rw [HL6.out]; decide) (by rw [HL6.out]; decide) (by rw [HL6.out]; decide) (by rw [HL6.out]; decide) (by rw [HL6.out]; decide) _ HR6.out).mono ?_
      rintro e x7 ⟨g7, cap7, rfl, hr, hg, _⟩
      have HL7 := Lib.hid (show (qAt S6 2 7 8 13).length = 16 by rw [qAt_len, HL6.out])
      have hl : (wn (qAt S6 2 7 8 13)).length = 16 := by rw [wn_len, HL7.out]
      rw [hl] at hr
      rw [hl]
      have HR7 := Lib.hid hr
      have HF7 := Lib.hid (HF6.out.grown0 hg)
      have HG7 := Lib.hid (HG6.out.trans hg)
      clear hr hg hl HR6 HF6 HG6 HL6
      generalize qAt S6 2 7 8 13 = S7 at *
      go_wp2_with fail
      refine (rquarter_any _ S7 3 4 9 14 ⟨by decide, by decide, by decide, by decide, by decide, by decide⟩ (by rw [HL7.out]; decide) (by rw [HL7.out]; decide) (by rw [HL7.out]; decide) (by rw [HL7.out]; decide) (by rw [HL7.out]; decide) _ HR7.out).mono ?_
      rintro e x8 ⟨g8, cap8, rfl, hr, hg, _⟩
      have HL8 := Lib.hid (show (qAt S7 3 4 9 14).length = 16 by rw [qAt_len, HL7.out])
      have hl : (wn (qAt S7 3 4 9 14)).length = 16 := by rw [wn_len, HL8.out]
      rw [hl] at hr
      rw [hl]
      have HR8 := Lib.hid hr
      have HF8 := Lib.hid (HF7.out.grown0 hg)
      have HG8 := Lib.hid (HG7.out.trans hg)
      clear hr hg hl HR7 HF7 HG7 HL7
      generalize qAt S7 3 4 9 14 = S8 at *
      go_wp2
      go_roundw
      case rel => exact ⟨k + 1, g8, cap8, by have := HKK.out.2; omega, by go_num, rfl, by rw [HNX.out]; exact HR8.out, HF8.out, HG8.out⟩
      case measure => have := HKK.out.2; simp [intOf]; omega
    · have hk10 : allQs k F = allQs 10 F := by rw [show k = 10 by omega]
      rw [hk10] at HR HSL
      clear hk10
      generalize allQs 10 F = L at *
      generalize hZ : List.zipWith (· + ·) L F = Z at *
      have HZ := Lib.hid hZ
      have HZL := Lib.hid (show Z.length = 16 by rw [← hZ, List.length_zipWith, HSL.out, HFL.out]; rfl)
      clear hZ
      have hdec : decide ((k : Int) < 10) = false := by simp; omega
      clear hlt hk
      go_wp2
      clear hdec
      have hwn := n.isLt
      go_loopw [10, 11] (fun u i W => ∃ q : Nat, q ≤ 16 ∧ i = .int .i64 q ∧ W.ownsRow w.heap.size 5 1 u (4 * q) (bytesV (tel (Z.take q))) ∧ Rd W (.slice (some ⟨g, 0, none⟩) 16 cap) (intsV (wn L)) ∧ Rd W (.slice (some ⟨g6, 0, none⟩) 16 cap6) (intsV (wn F)) ∧ w.grownBy W none ∧ (∀ b, u.ownBlock = some b → b ≠ g ∧ b ≠ g6 ∧ b < W.heap.size) ∧ g < W.heap.size ∧ g6 < W.heap.size) (fun _ i _ => 16 - (intOf i).toNat)
      case atStart =>
        have hlg : g < wr.heap.size := by
          have := World.block_lt_of_cell? wr _ (HR.out.i64 0 (by rw [HSL.out]; decide))
          rwa [add_block] at this
        have hlg6 : g6 < wr.heap.size := by
          have := World.block_lt_of_cell? wr _ (HRF.out.i64 0 (by rw [HFL.out]; decide))
          rwa [add_block] at this
        exact ⟨0, Nat.zero_le _, rfl, World.ownsRow_nil _ _ _ _, HR.out, HRF.out, HG.out, (fun b hb => by cases hb), hlg, hlg6⟩
      case round =>
        clear HR HRF HG
        obtain ⟨q, hq, rfl, ho, hrl, hrf, hgr, hne, hlg, hlg6⟩ := hrel
        have HO := Lib.hid ho
        have HRL := Lib.hid hrl
        have HRF := Lib.hid hrf
        have HGR := Lib.hid hgr
        have HNE := Lib.hid (And.intro hne (And.intro hlg hlg6))
        clear ho hgr hne hlg hlg6
        by_cases hlt : q < 16
        · have c1 := hrl.i64 q (by rw [HSL.out]; exact hlt)
          have c2 := hrf.i64 q (by rw [HFL.out]; exact hlt)
          have hx : Z.getD q 0 = L.getD q 0 + F.getD q 0 := by rw [← HZ.out]; exact zip_getD L F q (by rw [HSL.out]; exact hlt) (by rw [HFL.out]; exact hlt)
          generalize L.getD q 0 = x at *
          generalize F.getD q 0 = y at *
          obtain ⟨z, hz⟩ : ∃ z, z = x + y := ⟨_, rfl⟩
          rw [← hz] at hx
          have HT := Lib.hid (tel_takes Z q (by rw [HZL.out]; exact hlt) z hx)
          have HTB := Lib.hid (tel1_bytes z)
          obtain ⟨N, hN⟩ : ∃ N, N = x.toNat + y.toNat := ⟨_, rfl⟩
          have hw : IntKind.i64.wrap ((x.toNat : Int) + (y.toNat : Int)) = (N : Int) := by
            have := x.isLt
            have := y.isLt
            rw [IntKind.wrap_i64, hN]
            omega
          have HC1 := Lib.hid (fun V => (show Calls Try.prog 28 #[.int .i64 (N : Int)] V fun e w' => e = .returned (.int .i64 (z.toNat : Int)) ∧ w' = V from (rword_any N (by have := x.isLt; have := y.isLt; omega) V).mono fun e w' h => ⟨by rw [h.1, hz, BitVec.toNat_add, hN], h.2⟩))
          have iq : (q : Int) < 16 := by omega
          have hzl := z.isLt
          have HKK := Lib.hid (And.intro hq hlt)
          have hdec : decide ((q : Int) < 16) = true := by simp; omega
          clear hz hN hx hlt hrl hrf
          go_wp2
          refine wp_region_still_tail 10 (by kernel_rfl) (by kernel_rfl) ?_
          change wpStill _ _ wr.drew (fun a' => wpList _ _ _ _ a' wr.drew) _ _
          have k1 : wr.drew.cell? ⟨g, q, none⟩ = some (.int .i64 (x.toNat : Int)) := add_zero' g q ▸ c1
          have k2 : wr.drew.cell? ⟨g6, q, none⟩ = some (.int .i64 (y.toNat : Int)) := add_zero' g6 q ▸ c2
          have HO' := Lib.hid (own_drew HO.out)
          have HRL' := Lib.hid HRL.out.drew
          have HRF' := Lib.hid HRF.out.drew
          have HGR' := Lib.hid (grown_drew HGR.out)
          have HNE' := Lib.hid (show (∀ b, u10.ownBlock = some b → b ≠ g ∧ b ≠ g6 ∧ b < wr.drew.heap.size) ∧ g < wr.drew.heap.size ∧ g6 < wr.drew.heap.size from HNE.out)
          clear HO HRL HRF HGR HNE c1 c2
          generalize wr.drew = V at *
          simp only [List.take_succ_cons, List.take_zero, List.drop_succ_cons, List.drop_zero]
          repeat still_step
          still_call (HC1.out V)
          repeat still_step
          refine wpStill_nil ?_
          clear k1 k2 hw HC1
          have HOA := Lib.hid (own_keepI HO'.out (grown_alloc (grown_refl _ none) (.cells #[.int .u8 ((z.toNat : Int) % 256), .int .u8 ((z.toNat : Int) / 256 % 256), .int .u8 ((z.toNat : Int) / 65536 % 256), .int .u8 ((z.toNat : Int) / 16777216)] 5)))
          have HGA := Lib.hid (grown_alloc HGR'.out (.cells #[.int .u8 ((z.toNat : Int) % 256), .int .u8 ((z.toNat : Int) / 256 % 256), .int .u8 ((z.toNat : Int) / 65536 % 256), .int .u8 ((z.toNat : Int) / 16777216)] 5))
          have HGV := Lib.hid (grown_alloc (grown_refl V none) (.cells #[.int .u8 ((z.toNat : Int) % 256), .int .u8 ((z.toNat : Int) / 256 % 256), .int .u8 ((z.toNat : Int) / 65536 % 256), .int .u8 ((z.toNat : Int) / 16777216)] 5))
          have HRB := Lib.hid (show Rd (V.alloc (.cells #[.int .u8 ((z.toNat : Int) % 256), .int .u8 ((z.toNat : Int) / 256 % 256), .int .u8 ((z.toNat : Int) / 65536 % 256), .int .u8 ((z.toNat : Int) / 16777216)] 5)) (.slice (some ⟨V.heap.size, 0, none⟩) 4 4) (bytesV (tel1 z)) by
            rw [HTB.out]
            exact (Row.new V 5 [_, _, _, _]).rdp 4 rfl (by decide))
          go_wp2_with (at_builtin; refine wpList_append_bytes _ rfl _ _ rfl w.heap.size _ (4 * q) _ rfl HOA.out _ (tel1 z) rfl HRB.out ?_ ?_ ?_)
          · have := HKK.out.2; simp [tel1]; omega
          · exact HGA.out.size
          intro v' w' ho' hg' hv'
          rw [← HT.out, show 4 * q + (tel1 z).length = 4 * (q + 1) by simp [tel1]; omega] at ho'
          have hgV := HGV.out
          have hn1 := HNE'.out.1
          have hn2 := HNE'.out.2
          have HO2 := Lib.hid ho'
          have HG2 := Lib.hid (grown_app HGA.out HOA.out hg')
          have HL2 := Lib.hid ((HRL'.out.grown0 hgV).grown hg' (fun b hb e => by cases hb; exact (hn1 g e.symm).1 rfl))
          have HF2 := Lib.hid ((HRF'.out.grown0 hgV).grown hg' (fun b hb e => by cases hb; exact (hn1 g6 e.symm).2.1 rfl))
          have hs1 := hgV.size
          have hs2 := hg'.size
          have HN2 := Lib.hid (show (∀ b, v'.ownBlock = some b → b ≠ g ∧ b ≠ g6 ∧ b < w'.heap.size) ∧ g < w'.heap.size ∧ g6 < w'.heap.size from ⟨fun b hb => by
            rcases hv' with e | e
            · rw [e] at hb
              have := hn1 b hb
              omega
            · rw [e] at hb
              cases hb
              refine ⟨by omega, by omega, ?_⟩
              rcases ho'.2 with ⟨rfl, _⟩ | ⟨gg, cc, cur, rfl, _, hcells, _⟩
              · cases e
              · injection e with e
                simp only at e
                rw [← e]
                exact (Array.getElem?_eq_some_iff.1 hcells).1, by omega, by omega⟩)
          clear ho' hg' hv' hgV hn1 hn2 hs1 hs2 HOA HGA HGV HRB HO' HRL' HRF' HGR' HNE'
          go_wp2
          go_roundw
          case rel => exact ⟨q + 1, by have := HKK.out.2; omega, by go_num, HO2.out, HL2.out, HF2.out, HG2.out, HN2.out.1, HN2.out.2.1, HN2.out.2.2⟩
          case measure => have := HKK.out.2; simp [intOf]; omega
        · have h16 : tel (Z.take q) = blok key n nonce := by rw [HBL.out, HLW.out, List.take_of_length_le (by rw [HZL.out]; omega)]
          rw [h16] at HO
          have hdec : decide ((q : Int) < 16) = false := by simp; omega
          clear h16 hlt hq hrl hrf
          go_wp2
          go_ret
          exact ⟨_, rfl, Rd.of_own HO.out, HGR.out, fun b hb => by
            rcases HO.out.2 with ⟨rfl, _⟩ | ⟨gg, cc, cur, rfl, hbase, hcells, _⟩
            · cases hb
            · cases hb; exact ⟨hbase, (Array.getElem?_eq_some_iff.1 hcells).1⟩⟩
end Go.Proofs.Ytjcbdplbekecjaa

/-
  The document's own Xor of layer 5 over this program.
-/
namespace Go.Proofs.Ytjcbdplbekecjaa
open Go.RowKit

theorem xs_take (key : List UInt8) (n : W32) (nonce b : List UInt8) (i : Nat) (h : i < b.length) : bytesV ((xs key n nonce b).take (i + 1)) = bytesV ((xs key n nonce b).take i) ++ bytesV [b.getD i 0 ^^^ ks key n nonce i] := by
  rw [List.take_succ_eq_append_getElem (by rw [xs_len]; exact h), bytesV_app]
  congr 2
  have := xs_at key n nonce b i h
  rw [List.getElem?_eq_getElem (by rw [xs_len]; exact h)] at this
  injection this with this
  rw [this]

theorem num_word (n : W32) (q N : Nat) (hN : N = n.toNat + q) : N % 4294967296 = (n + BitVec.ofNat 32 q).toNat := by
  rw [BitVec.toNat_add, BitVec.toNat_ofNat, hN]
  omega

set_option maxHeartbeats 8000000 in
theorem rxor_own (v0 v2 v3 : Value) (key : List UInt8) (hk : key.length = 32) (n : W32) (nonce : List UInt8) (hn : nonce.length = 12) (b : List UInt8) (hb : b.length ≤ 1000) (w : World) (h0 : Rd w v0 (bytesV key)) (h2 : Rd w v2 (bytesV nonce)) (h3 : Rd w v3 (bytesV b)) :
    Calls Try.prog 16 #[v0, .int .i64 (n.toNat : Int), v2, v3] w (OutO w (xs key n nonce b)) := by
  obtain ⟨m, hm⟩ : ∃ m, m = b.length := ⟨_, rfl⟩
  obtain ⟨A3, c3, rfl⟩ := h3.form
  rw [bytesV_len, ← hm] at h3 ⊢
  have HK := Lib.hid hk
  have HN := Lib.hid hn
  have H0 := Lib.hid h0
  have H2 := Lib.hid h2
  have H3 := Lib.hid h3
  have HM := Lib.hid hm
  have hm1 : m ≤ 1000 := by omega
  have hnlt := n.isLt
  clear hk hn h0 h2 h3 hm hb
  go_enter Try.func16, Try.ntmps16
  go_wp2
  go_loopw [9, 10, 11] (fun u x i W => ∃ k : Nat, k ≤ m ∧ i = .int .i64 k ∧ W.ownsRow w.heap.size 5 1 u k (bytesV ((xs key n nonce b).take k)) ∧ w.grownBy W none ∧ (∀ g, u.ownBlock = some g → g < W.heap.size) ∧
      (k % 64 ≠ 0 → Rd W x (bytesV (blok key (n + BitVec.ofNat 32 (k / 64)) nonce)) ∧ ∀ g, x.ownBlock = some g → u.ownBlock ≠ some g ∧ g < W.heap.size)) (fun _ _ i _ => m - (intOf i).toNat)
  case atStart => exact ⟨0, Nat.zero_le _, rfl, World.ownsRow_nil _ _ _ _, grown_refl _ _, (fun g hg => by cases hg), (fun h => absurd rfl h)⟩
  case round =>
    obtain ⟨k, hk, rfl, ho, hg, hu, hx⟩ := hrel
    by_cases hlt : k < m
    · obtain ⟨ad3, rfl, _⟩ := H3.out.cells (by intro e; have := congrArg List.length e; rw [bytesV_len, ← HM.out] at this; simp at this; omega)
      have HO := Lib.hid ho
      have HG := Lib.hid hg
      have HU := Lib.hid hu
      obtain ⟨j, hj⟩ : ∃ j, k % 64 = j := ⟨_, rfl⟩
      obtain ⟨q, hq⟩ : ∃ q, k / 64 = q := ⟨_, rfl⟩
      have hj64 : j < 64 := by omega
      have HT := Lib.hid (xs_take key n nonce b k (by rw [← HM.out]; exact hlt))
      have HKS := Lib.hid (show ks key n nonce k = (blok key (n + BitVec.ofNat 32 q) nonce).getD j 0 by unfold ks; rw [hj, hq])
      have HJ := Lib.hid hj
      have HQ := Lib.hid hq
      rw [hq, hj] at hx
      have HX := Lib.hid hx
      have hdec : decide (k < m) = true := by simp; omega
      have HKK := Lib.hid (And.intro hk hlt)
      have hq1 : q ≤ 1000 := by omega
      have hdiv : (k : Int) / 64 = (q : Int) := by omega
      have hrem : (k : Int) % 64 = (j : Int) := by omega
      clear ho hg hu hx hlt hj hq
      by_cases hz : j = 0
      case' pos =>
        have hz1 : ((k : Int) % 64 == 0) = true := by rw [hrem, hz]; rfl
        have hz2 : ((j : Int) == 0) = true := by rw [hz]; rfl
        have HZ := Lib.hid hz
        obtain ⟨y, hy⟩ : ∃ y, y = n + BitVec.ofNat 32 q := ⟨_, rfl⟩
        obtain ⟨N, hN⟩ : ∃ N, N = n.toNat + q := ⟨_, rfl⟩
        have hsum : (n.toNat : Int) + (q : Int) = (N : Int) := by omega
        have hNb : N ≤ 1000000000000 := by omega
        have HWD := Lib.hid (fun V => (show Calls Try.prog 28 #[.int .i64 (N : Int)] V fun e w' => e = .returned (.int .i64 (y.toNat : Int)) ∧ w' = V from (rword_any N hNb V).mono fun e w' h => ⟨by rw [h.1, hy, num_word n q N hN], h.2⟩))
        have HY := Lib.hid hy
        clear hy hN hz
        go_wp2_with fail
        refine (HWD.out wr).mono ?_
        rintro e w1 ⟨rfl, hw1⟩
        rw [hw1]
        clear hw1 w1 HWD
        go_wp2_with fail
        refine (rblock_any _ _ key HK.out y nonce HN.out wr (H0.out.grown0 HG.out) (H2.out.grown0 HG.out)).mono ?_
        rintro e w2 ⟨x2, rfl, hrx, hg2, hox⟩
        have hlb : (bytesV (blok key y nonce)).length = 64 := by rw [bytesV_len, blok_len]
        obtain ⟨Ax, cx, rfl⟩ := hrx.form
        rw [hlb] at hrx hox
        rw [hlb]
        rw [HY.out] at hrx
        have hnx : ∀ g, (Value.slice Ax 64 cx).ownBlock = some g → u9.ownBlock ≠ some g ∧ g < w2.heap.size := fun g hg => ⟨fun e => absurd (HU.out g e) (Nat.not_lt.2 (hox g hg).1), (hox g hg).2⟩
        have HO2 := Lib.hid (own_keepI HO.out hg2)
        have HG2 := Lib.hid (HG.out.trans hg2)
        have HU2 := Lib.hid (fun g hg => Nat.lt_of_lt_of_le (HU.out g hg) hg2.size)
        have HRX := Lib.hid hrx
        have HNX := Lib.hid hnx
        clear hrx hg2 hox hlb hnx HY hsum hNb
        go_wp2
        clear hz1 hz2 HZ
      case' neg =>
        have hz1 : ((k : Int) % 64 == 0) = false := by rw [hrem]; simp; omega
        have hz2 : ((j : Int) == 0) = false := by simp; omega
        obtain ⟨hrx, hnx⟩ := HX.out hz
        have hlb : (bytesV (blok key (n + BitVec.ofNat 32 q) nonce)).length = 64 := by rw [bytesV_len, blok_len]
        obtain ⟨Ax, cx, rfl⟩ := hrx.form
        rw [hlb] at hrx hnx
        rw [hlb] at HX
        rw [hlb]
        obtain ⟨w2, hw2⟩ : ∃ x, x = wr := ⟨_, rfl⟩
        subst hw2
        have HO2 := HO
        have HG2 := HG
        have HU2 := HU
        have HRX := Lib.hid hrx
        have HNX := Lib.hid hnx
        clear hrx hnx hlb hz
        go_wp2
        clear hz1 hz2
      all_goals
        obtain ⟨adx, rfl, _⟩ := HRX.out.cells (by intro e; have := congrArg List.length e; rw [bytesV_len, blok_len] at this; simp at this)
        have hcb := (H3.out.grown0 HG2.out).bytes k (by rw [← HM.out]; exact HKK.out.2)
        have hcx := HRX.out.bytes j (by rw [blok_len]; exact hj64)
        have HT2 := Lib.hid (show bytesV ((xs key n nonce b).take (k + 1)) = bytesV ((xs key n nonce b).take k) ++ bytesV [b.getD k 0 ^^^ (blok key (n + BitVec.ofNat 32 q) nonce).getD j 0] by rw [HT.out, HKS.out])
        generalize b.getD k 0 = p at *
        generalize (blok key (n + BitVec.ofNat 32 q) nonce).getD j 0 = r at *
        have HCB := Lib.hid (fun (W : World) (hW : w2.grownBy W none) => (show W.cell? (ad3.add k) = some (.int .u8 (p.toNat : Int)) from (World.cell?_of_block (hW.block _ (World.block_lt_of_cell? w2 _ hcb) (by simp))).trans hcb))
        have HCX := Lib.hid (fun (W : World) (hW : w2.grownBy W none) => (show W.cell? (adx.add j) = some (.int .u8 (r.toNat : Int)) from (World.cell?_of_block (hW.block _ (World.block_lt_of_cell? w2 _ hcx) (by simp))).trans hcx))
        clear hcb hcx
        refine wp_region_walk3 12 [] dis_nil (by kernel_rfl) (by kernel_rfl) (by kernel_rfl) ?_
        simp only [List.take_succ_cons, List.take_zero, List.drop_succ_cons, List.drop_zero]
        refine Walk.val (G := Is (u9)) (stays_is _ _) rfl rfl (fun a w hm hd => ⟨wanted_plain rfl, _, ex_move rfl, by rw [hm.outer 9 (by kernel_rfl)]; rfl⟩) ?_
        refine Walk.val (G := Is (.slice (some ad3) m c3)) (stays_is _ _) rfl rfl (fun a w hm hd => ⟨wanted_plain rfl, _, ex_move rfl, by rw [hm.outer 3 (by kernel_rfl)]; rfl⟩) ?_
        refine Walk.val (G := Is (.int .i64 (k : Int))) (stays_is _ _) rfl rfl (fun a w hm hd => ⟨wanted_plain rfl, _, ex_move rfl, by rw [hm.outer 11 (by kernel_rfl)]; rfl⟩) ?_
        refine Walk.val (G := Is (.pointer (some (ad3.add k)))) (stays_is _ _) rfl rfl (fun a w hm hd => ⟨wanted_plain rfl, _, ex_idxB rfl (hd.at_ 1 rfl rfl rfl rfl) (hd.at_ 2 rfl rfl rfl rfl) HKK.out.2, rfl⟩) ?_
        refine Walk.val (G := Is (.int .u8 (p.toNat : Int))) (stays_is _ _) rfl rfl (fun a w hm hd => ⟨wanted_plain rfl, _, ex_loadB rfl (hd.at_ 3 rfl rfl rfl rfl) (HCB.out w hm.grow.none2), rfl⟩) ?_
        refine Walk.val (G := Is (.slice (some adx) 64 cx)) (stays_is _ _) rfl rfl (fun a w hm hd => ⟨wanted_plain rfl, _, ex_move rfl, by rw [hm.outer 10 (by kernel_rfl)]; rfl⟩) ?_
        refine Walk.val (G := Is (.int .i64 (k : Int))) (stays_is _ _) rfl rfl (fun a w hm hd => ⟨wanted_plain rfl, _, ex_move rfl, by rw [hm.outer 11 (by kernel_rfl)]; rfl⟩) ?_
        refine Walk.val (G := Is (.int .i64 (j : Int))) (stays_is _ _) rfl rfl (fun a w hm hd => ⟨wanted_plain rfl, _, ex_remc j 64 rfl (by decide) rfl (hd.at_ 6 rfl rfl rfl rfl) HJ.out, rfl⟩) ?_
        refine Walk.val (G := Is (.pointer (some (adx.add j)))) (stays_is _ _) rfl rfl (fun a w hm hd => ⟨wanted_plain rfl, _, ex_idxB rfl (hd.at_ 5 rfl rfl rfl rfl) (hd.at_ 7 rfl rfl rfl rfl) hj64, rfl⟩) ?_
        refine Walk.val (G := Is (.int .u8 (r.toNat : Int))) (stays_is _ _) rfl rfl (fun a w hm hd => ⟨wanted_plain rfl, _, ex_loadB rfl (hd.at_ 8 rfl rfl rfl rfl) (HCX.out w hm.grow.none2), rfl⟩) ?_
        refine Walk.val (G := Is (.int .u8 ((p ^^^ r).toNat : Int))) (stays_is _ _) rfl rfl (fun a w hm hd => ⟨wanted_plain rfl, _, ex_xorB rfl (hd.at_ 4 rfl rfl rfl rfl) (hd.at_ 9 rfl rfl rfl rfl), rfl⟩) ?_
        refine Walk.makes (G := fun v W => Rd W v (bytesV [p ^^^ r])) (fun _ _ _ _ _ h hg => Rd.grown0 h hg) rfl rfl (fun a w hm _ hd => ⟨wanted_plain rfl, _, _, ex_build1B rfl (hd.at_ 10 rfl rfl rfl rfl), grown_alloc (grown_refl _ _) _, Rd.one w (byteV (p ^^^ r)) 5⟩) ?_
        intro a9 V hm9 hall
        have f29 : a9.eval (.tmp 29) = u9 := hall 0 _ _ rfl rfl
        have f40 : Rd V (a9.eval (.tmp 40)) (bytesV [p ^^^ r]) := hall 11 _ _ rfl rfl
        have hg9 : w2.grownBy V none := GrownX.none2 hm9.grow
        have HF := Lib.hid hm9.frame
        refine wpList_append_bytes _ rfl _ _ rfl w.heap.size _ k _ f29 (own_keepI HO2.out hg9) _ [p ^^^ r] rfl f40 (by have := HKK.out.2; simp; omega) (by have := (HG2.out.trans hg9).size; omega) ?_
        intro v' w' ho' hg' hv'
        rw [← HT2.out] at ho'
        have hux := HNX.out
        have huu := HU2.out
        have hs1 := hg9.size
        have hs2 := hg'.size
        have HO4 := Lib.hid (show w'.ownsRow w.heap.size 5 1 v' (k + 1) (bytesV ((xs key n nonce b).take (k + 1))) from ho')
        have HG4 := Lib.hid (grown_app (HG2.out.trans hg9) (own_keepI HO2.out hg9) hg')
        have HU4 := Lib.hid (show ∀ g, v'.ownBlock = some g → g < w'.heap.size from fun g hg => by
          rcases ho'.2 with ⟨rfl, _⟩ | ⟨gg, cc, cur, rfl, _, hcells, _⟩
          · cases hg
          · cases hg; exact (Array.getElem?_eq_some_iff.1 hcells).1)
        have HX4 := Lib.hid (show Rd w' (.slice (some adx) 64 cx) (bytesV (blok key (n + BitVec.ofNat 32 q) nonce)) ∧ ∀ g, (Value.slice (some adx) 64 cx).ownBlock = some g → v'.ownBlock ≠ some g ∧ g < w'.heap.size from
          ⟨(HRX.out.grown0 hg9).grown hg' (fun g hg e => (hux g hg).1 e.symm), fun g hg => ⟨fun e => by
            rcases hv' with h | h
            · exact (hux g hg).1 (h ▸ e)
            · rw [h] at e
              cases e
              have := (hux _ hg).2
              omega, by have := (hux g hg).2; omega⟩⟩)
        rw [HF.out]
        simp only [List.take_succ_cons, List.take_zero, List.filterMap_cons, List.filterMap_nil, List.foldl_cons, List.foldl_nil]
        clear f29 f40 hg9 HF ho' hg' hv' hux huu hs1 hs2
        generalize a9.eval (.tmp 29) = e29
        generalize a9.eval (.tmp 30) = e30
        generalize a9.eval (.tmp 31) = e31
        generalize a9.eval (.tmp 32) = e32
        generalize a9.eval (.tmp 33) = e33
        generalize a9.eval (.tmp 34) = e34
        generalize a9.eval (.tmp 35) = e35
        generalize a9.eval (.tmp 36) = e36
        generalize a9.eval (.tmp 37) = e37
        generalize a9.eval (.tmp 38) = e38
        generalize a9.eval (.tmp 39) = e39
        generalize a9.eval (.tmp 40) = e40
        clear hm9 hall
        simp only [Act.put, List.setIfInBounds_toArray, List.set_cons_succ, List.set_cons_zero]
        go_wp2
        go_roundw
        case rel =>
          refine ⟨k + 1, by have := HKK.out.2; omega, by go_num, HO4.out, HG4.out, HU4.out, fun hne => ?_⟩
          have h1 := HJ.out
          have h2 := HQ.out
          rw [show (k + 1) / 64 = q by omega]
          exact HX4.out
        case measure => have := HKK.out.2; simp [intOf]; omega
    · have hkm : (xs key n nonce b).take k = xs key n nonce b := List.take_of_length_le (by rw [xs_len, ← HM.out]; omega)
      have hkl : k = (xs key n nonce b).length := by rw [xs_len, ← HM.out]; omega
      rw [hkm] at ho
      have HO := Lib.hid ho
      have HG := Lib.hid hg
      have HL := Lib.hid hkl
      have hdec : decide (k < m) = false := by simp; omega
      clear hkm ho hg hu hx hlt hk hkl
      go_wp2
      go_ret
      exact ⟨_, rfl, by rw [← HL.out]; exact HO.out, HG.out⟩
theorem rxorAll_any (v0 v2 v3 : Value) (key : List UInt8) (hk : key.length = 32) (n : W32) (nonce : List UInt8) (hn : nonce.length = 12) (b : List UInt8) (hb : b.length ≤ 1000) (w : World) (h0 : Rd w v0 (bytesV key)) (h2 : Rd w v2 (bytesV nonce)) (h3 : Rd w v3 (bytesV b)) :
    Calls Try.prog 16 #[v0, .int .i64 (n.toNat : Int), v2, v3] w (Out w (xs key n nonce b)) :=
  (rxor_own v0 v2 v3 key hk n nonce hn b hb w h0 h2 h3).mono fun _ _ h => h.out
end Go.Proofs.Ytjcbdplbekecjaa
