/-
  pack's Read over this program.
-/
import Derived.Test.YtibofgokdjbomaaPkWrite
import Derived.Test.YtibofgokdjbomaaParsePr
import Derived.Test.YtibofgokdjbomaaMCodR
namespace Go.Proofs.Ytibofgokdjbomaa
set_option maxRecDepth 1000000
open Go.RowKit

section
variable {P : Program} {ops : Array Oper} {Q : Exit → Act → World → Prop} {n : Nat} {eff : List (Nat × Nat)} {w0 : World} {a0 : Act} {tail : List Oper}
/-- An operation that is not wanted. -/
theorem Walk.skip {env : List (Value → World → Prop)} {k : Nat} {o : Oper} {rest : List Oper} (ho : ops[k]? = some o)
    (hs : ∀ a w, Mid2 ops n eff w0 a0 a w → Deps2 ops env.reverse o a w → Region.wanted o (yielded ops a.tmps) = false)
    (hc : Walk P ops Q n eff w0 a0 tail (k + 1) rest (Is undef :: env)) : Walk P ops Q n eff w0 a0 tail k (o :: rest) env := by
  refine ⟨Is undef, stays_is _ _, fun a w hm _ hd => ?_, hc⟩
  have hw := hs a w hm hd
  unfold wpOp
  rw [ho]
  simp only
  rw [if_neg (by rw [hw]; simp)]
  exact ⟨undef, rfl, grown_refl _ _, rfl, fun _ => rfl⟩
theorem unwanted_at {o : Oper} {a : Act} {g : Nat} {b : Bool} {d : Tmp} {w : World} {u : Value} (h : o.guard = some (g, b)) (hd : (ops[g]?).bind (fun o => o.dst) = some d) (hv : Is u (a.eval (.tmp d)) w) (hu : u ≠ .bool b) : Region.wanted o (yielded ops a.tmps) = false := by
  have h1 : a.tmps.getD d undef = u := hv
  rw [Array.getD_eq_getD_getElem?] at h1
  simp only [Region.wanted, h, yielded, hd]
  cases hx : a.tmps[d]? with
  | none => simp [hx]
  | some y =>
    rw [hx] at h1
    simp only [Option.getD_some] at h1
    subst h1
    simp [hx]
    cases y <;> simp_all
end
section
variable {o : Oper} {a : Act} {w : World}
theorem st_gtr {x y : Operand} {p q : Int} {b : Bool} (h : o.op = .binOp .gtr 3 x y 3) (hx : Is (.int .i64 p) (a.eval x) w) (hy : Is (.int .i64 q) (a.eval y) w) (e : decide (q < p) = b) : Runs (Is (.bool b)) o a w := by
  have hx' : a.eval x = .int .i64 p := hx
  have hy' : a.eval y = .int .i64 q := hy
  subst e
  refine ⟨_, ?_, rfl⟩
  simp only [execOp, h, hx', hy']
  simp [go_sem]
theorem st_fieldT2 {x : Operand} {g : Nat} (h : o.op = .fieldAddr 37 x 2) (hx : Is (.pointer (some ⟨g, 0, none⟩)) (a.eval x) w) : Runs (Is (.pointer (some ⟨g, 2, none⟩))) o a w := by
  have hx' : a.eval x = .pointer (some ⟨g, 0, none⟩) := hx
  refine ⟨_, ?_, rfl⟩
  simp only [execOp, h, hx']
  kernel_rfl
end
def endN (r : Rst) : Nat := if 0 < r.rest.length then 5 else if r.short then 2 else 0
theorem end_any (g : Nat) (vb : Option Nat) (r : Rst) (w : World) (h : Rs w g vb r) (hw : 0 < r.width) : Calls Try.prog 45 #[.pointer (some ⟨g, 0, none⟩)] w (Val (.int .i64 (endN r : Int)) w) := by
  have HL := Lib.hid (left_at g vb r w h)
  have HE := Lib.hid (err_at g vb r w h hw)
  by_cases h0 : 0 < r.rest.length
  · have hd : decide (0 < (r.rest.length : Int)) = true := by rw [decide_eq_true_eq]; omega
    have hE : endN r = 5 := by unfold endN; rw [if_pos h0]
    rw [hE]
    generalize r.rest.length = m at *
    go_enter Try.func45, Try.ntmps45
    go_wp2_with fail
    refine HL.out.mono ?_
    rintro e w1 ⟨rfl, hw1⟩
    obtain rfl := hw1.symm
    go_wp2
    go_ret
    exact ⟨rfl, grown_refl _ _⟩
  · have hd : decide (0 < (r.rest.length : Int)) = false := by rw [decide_eq_false_iff_not]; omega
    have hE : (endN r : Int) = if r.short then 2 else 0 := by unfold endN; rw [if_neg h0]; split <;> rfl
    rw [hE]
    generalize r.rest.length = m at *
    generalize (if r.short = true then (2 : Int) else 0) = z at *
    go_enter Try.func45, Try.ntmps45
    go_wp2_with fail
    refine HL.out.mono ?_
    rintro e w1 ⟨rfl, hw1⟩
    obtain rfl := hw1.symm
    go_wp2_with fail
    refine HE.out.mono ?_
    rintro e w1 ⟨rfl, hw1⟩
    obtain rfl := hw1.symm
    go_wp2
    go_ret
    exact ⟨rfl, grown_refl _ _⟩
/-- What Read answers. -/
def RdOut (w : World) (p : List Tok × Nat) (e : Ending) (w' : World) : Prop := ∃ u, e = .returned (.tuple #[u, .int .i64 (p.2 : Int)]) ∧ RdT w' u p.1 ∧ w.grownBy w' none
/-- A reader, a model and the tokens so far, in the midst of Read. -/
structure RdS (w W : World) (g gm : Nat) (vb : Option Nat) (r : Rst) (x : Kst) (u : Value) (acc : List Tok) : Prop where
  rs : Rs W g vb r
  mo : Mo W gm x
  own : W.ownsRow w.heap.size 37 3 u acc.length (tokCs acc)
  ne : gm ≠ g ∧ vb ≠ some gm
  off : ∀ k, u.ownBlock = some k → k ≠ g ∧ k ≠ gm ∧ vb ≠ some k
  new : w.heap.size ≤ g ∧ w.heap.size ≤ gm
  vlt : ∀ b, vb = some b → b < W.heap.size
  grow : w.grownBy W none
section
variable {w W W' : World} {g gm : Nat} {vb : Option Nat} {r r' : Rst} {x x' : Kst} {u : Value} {acc : List Tok}
theorem RdS.grown0 (h : RdS w W g gm vb r x u acc) (hg : W.grownBy W' none) : RdS w W' g gm vb r x u acc := ⟨h.rs.grown0 hg, h.mo.grown0 hg, own_grown h.own hg, h.ne, h.off, h.new, fun b hb => Nat.lt_of_lt_of_le (h.vlt b hb) hg.size, h.grow.trans hg⟩
theorem RdS.take (h : RdS w W g gm vb r x u acc) (hr : Rs W' g vb r') (hm : Mo W' gm x') (hn : Wn [g, gm] W none W' none) : RdS w W' g gm vb r' x' u acc :=
  ⟨hr, hm, own_same h.own (fun k hk => hn.block k (h.own.lt k hk).2 (by have := h.off k hk; simp; omega) (by simp)), h.ne, h.off, h.new, fun b hb => Nat.lt_of_lt_of_le (h.vlt b hb) hn.size, Wn.new h.grow hn (fun b hb => by have := h.new; simp at hb; omega) (fun b hb => by cases hb)⟩
theorem RdS.pass (h : RdS w W g gm vb r x u acc) (hm : Mo W' gm x') (hg : W.grownBy W' (some gm)) : RdS w W' g gm vb r x' u acc :=
  ⟨h.rs.grown hg (fun e => by cases e; exact h.ne.1 rfl) (fun b hb e => by cases e; exact h.ne.2 hb), hm, own_same h.own (fun k hk => hg.block k (h.own.lt k hk).2 (by have := h.off k hk; simp; omega)), h.ne, h.off, h.new, fun b hb => Nat.lt_of_lt_of_le (h.vlt b hb) hg.size, grown_own h.grow hg h.new.2⟩
theorem RdS.app {u' : Value} {t : Tok} (h : RdS w W g gm vb r x u acc) (ho : W'.ownsRow w.heap.size 37 3 u' (acc.length + 1) (tokCs acc ++ tokC t)) (hg : W.grownBy W' u.ownBlock) (hat : ∀ k, u'.ownBlock = some k → u.ownBlock = some k ∨ W.heap.size ≤ k) : RdS w W' g gm vb r x u' (acc ++ [t]) := by
  have hne : ∀ k, u.ownBlock = some k → k ≠ g ∧ k ≠ gm ∧ vb ≠ some k := h.off
  refine ⟨h.rs.grown hg (fun e => (hne g e.symm).1 rfl) (fun b hb e => (hne b e.symm).2.2 hb), h.mo.grown hg (fun e => (hne gm e.symm).2.1 rfl), ?_, h.ne, fun k hk => ?_, h.new, fun b hb => Nat.lt_of_lt_of_le (h.vlt b hb) hg.size, grown_new h.grow hg (fun k e => (h.own.lt k e).1)⟩
  · rw [tokCs_app, show tokCs [t] = tokC t by simp [tokCs], List.length_append]
    exact ho
  · rcases hat k hk with e | e
    · exact hne k e
    · exact ⟨fun e2 => by have := h.rs.lt; omega, fun e2 => by have := h.mo.lt; omega, fun e2 => by have := h.vlt k e2; omega⟩
end
theorem RdT.none (w : World) : RdT w (.slice none 0 0) [] := ⟨.none, 0, rfl, Nat.le_refl _, Nat.zero_le _, fun h => absurd rfl h⟩
set_option maxHeartbeats 8000000 in
theorem read_any (b : List UInt8) (n : Nat) (v : Value) (w : World) (hv : Rd w v (bytesV b)) (hb : b.length ≤ 1000000) (hn : n ≤ 65536) :
    Calls Try.prog 16 #[v, .int .i64 (n : Int)] w (RdOut w (readM b n)) := by
  have HOP := Lib.hid (open_any v b w hv (by omega))
  have HN := Lib.hid hn
  have hd0 : decide ((n : Int) < 0) = false := by simp
  have hd1 : decide (65536 < (n : Int)) = false := by simp; omega
  clear hv hb hn
  obtain ⟨Y, hY⟩ : ∃ Y, readM b n = Y := ⟨_, rfl⟩
  have HY := Lib.hid (show endR (readF n n (rpt0 b) []) = Y from hY)
  rw [hY]
  clear hY
  go_enter Try.func16, Try.ntmps16
  go_wp2_with fail
  refine HOP.out.mono ?_
  rintro e w1 ⟨g, vb, rfl, hrs1, hge1, hvb1, hg1⟩
  have H1 := Lib.hid (show Rs w1 g vb (openN 4 b) ∧ w.heap.size ≤ g ∧ (∀ k, vb = some k → w.heap.size ≤ k ∧ k < w1.heap.size) ∧ w.grownBy w1 none from ⟨hrs1, hge1, hvb1, hg1⟩)
  clear hrs1 hge1 hvb1 hg1 HOP
  go_wp2_with (first | (refine wpList_runs rfl (ex_buildM rfl) ?_) | (refine wpList_runs rfl (ex_boxM rfl rfl) ?_))
  have HM2 := Lib.hid (newModel w1)
  obtain ⟨W2, hW2⟩ : ∃ W, w1.alloc (.cells Try.zeroCells87 87) = W := ⟨_, rfl⟩
  obtain ⟨gm, hgm⟩ : ∃ g, w1.heap.size = g := ⟨_, rfl⟩
  have hg2 : w1.grownBy W2 none := by rw [← hW2]; exact grown_alloc (grown_refl _ _) _
  rw [hW2, hgm] at HM2
  try rw [hW2]
  try rw [hgm]
  have HS := Lib.hid (show RdS w W2 g gm vb (openN 4 b) kst0 (.slice none 0 0) [] from ⟨H1.out.1.grown0 hg2, HM2.out, World.ownsRow_nil _ _ _ _, ⟨fun e => by have := H1.out.1.lt; omega, fun e => by have := H1.out.2.2.1 gm e; omega⟩, (fun k hk => by cases hk), ⟨H1.out.2.1, by have := H1.out.2.2.2.size; omega⟩, fun b hb => Nat.lt_of_lt_of_le (H1.out.2.2.1 b hb).2 hg2.size, H1.out.2.2.2.trans hg2⟩)
  clear hW2 hgm hg2 HM2 H1
  go_loopw [8] (fun u W => ∃ (f : Nat) (r : Rst) (x : Kst) (acc : List Tok), RdS w W g gm vb r x u acc ∧ (Okr r ∧ Okk x) ∧ (x.h.length ≤ n ∧ n ≤ f + x.h.length ∧ acc.length ≤ x.h.length ∧ acc.length = sliceLen u) ∧ endR (readF n f ⟨r, x⟩ acc) = Y) (fun u _ => n - sliceLen u)
  case atStart => exact ⟨n, openN 4 b, kst0, [], HS.out, ⟨openN_okr b, kst0_ok⟩, ⟨Nat.zero_le _, Nat.le_refl _, Nat.le_refl _, rfl⟩, HY.out⟩
  case round =>
    obtain ⟨f, r, x, acc, hh, ho, hl, hy⟩ := hrel
    have HH := Lib.hid hh
    have HO := Lib.hid ho
    have HL := Lib.hid hl
    have HAT := Lib.hid (hh.mo.at_ ho.2.len)
    obtain ⟨A8, c8, hf8⟩ : ∃ A c, u8 = .slice A acc.length c := (RdT.of_own rfl hh.own).form
    obtain ⟨hn, hhn⟩ : ∃ m, x.h.length = m := ⟨_, rfl⟩
    have hat := HAT.out
    rw [hhn] at hat
    have HHN := Lib.hid hhn
    have hnn := HN.out
    by_cases hlt : hn < n
    · have hd : decide ((hn : Int) < (n : Int)) = true := by simp; omega
      obtain ⟨f', rfl⟩ : ∃ k, f = k + 1 := ⟨f - 1, by omega⟩
      have HTA := Lib.hid (takeM_at g vb r gm x wr hh.rs ho.1 hh.mo ho.2 (by omega) hh.ne hh.vlt)
      have HTO := Lib.hid (takeT_ok ho.1 ho.2)
      rw [readF, if_pos (show x.h.length < n by omega)] at hy
      rw [show nextR2 ⟨r, x⟩ = ⟨(takeT r x).2.1, nextK x (takeT r x).2.2 (takeT r x).1⟩ from rfl] at hy
      simp only at hy
      generalize takeT r x = T at *
      obtain ⟨t, r2, L2⟩ := T
      simp only at hy
      have HY2 := Lib.hid hy
      clear hh ho hl HS HY hhn hy
      subst hf8
      go_wp2_with fail
      refine HTA.out.mono ?_
      rintro e w3 ⟨rfl, hr3, hm3, hn3⟩
      have HS3 := Lib.hid (HH.out.take hr3 hm3 hn3)
      have hg5 : w3.grownBy (w3.alloc (.cells (tokC t).toArray 37)) none := grown_alloc (grown_refl _ _) _
      have HS5 := Lib.hid (HS3.out.grown0 hg5)
      obtain ⟨gt, hgt⟩ : ∃ g, w3.heap.size = g := ⟨_, rfl⟩
      have HT5 := Lib.hid (show Row (w3.alloc (.cells (tokC t).toArray 37)) gt 37 (tokC t) from Row.newAt w3 _ (tokC t) hgt)
      have HNE := Lib.hid (show gt ≠ gm from fun e => by have := HS3.out.mo.lt; omega)
      clear hr3 hm3 hn3 HTA hat hg5
      simp only
      unfold tokV
      go_wp2
      have HAT5 := Lib.hid (HS5.out.mo.at_ HTO.out.len)
      rw [show (⟨L2, x.kind, x.h⟩ : Kst).h.length = hn from HHN.out] at HAT5
      obtain ⟨W5, hW5⟩ : ∃ W, w3.alloc (.cells (tokC t).toArray 37) = W := ⟨_, rfl⟩
      rw [hW5] at HS5 HT5 HAT5
      rw [show w3.alloc (.cells #[.int .u8 (t.lit.toNat : Int), .int .i64 t.len, .int .i64 t.back] 37) = W5 from hW5]
      try rw [hgt]
      have HRT := Lib.hid (fun W => right_any t W)
      rw [show right t = true from HTO.out.t] at HRT
      have HRL := Lib.hid (right_len HTO.out.t)
      have HAT6 := Lib.hid (fun W (hg : W5.grownBy W none) => ((Mo.grown0 (x := ⟨L2, x.kind, x.h⟩) HS5.out.mo hg).at_ HTO.out.len))
      rw [show (⟨L2, x.kind, x.h⟩ : Kst).h.length = hn from HHN.out] at HAT6
      clear hW5 hgt HS3
      by_cases hbk : (hn : Int) < t.back
      · have HD1 := Lib.hid (show decide ((hn : Int) < t.back) = true by simpa using hbk)
        have HY3 := Lib.hid (show Y = ([], 4) by
          rw [← HY2.out]
          rw [if_pos (by unfold badT; rw [HHN.out]; simp; exact .inl (.inr hbk))]
          rfl)
        clear hbk
        refine wp_region_walk3 23 [] dis_nil (by kernel_rfl) (by kernel_rfl) (by kernel_rfl) ?_
        simp only [List.take_succ_cons, List.take_zero, List.drop_succ_cons, List.drop_zero]
        refine Walk.val (G := Is (tokV t)) (stays_is _ _) rfl rfl (fun a w hm hd => ⟨wanted_plain rfl, st_loadK rfl (by rw [hm.outer 9 (by kernel_rfl)]; rfl) (HT5.out.grown0 (GrownX.none2 hm.grow))⟩) ?_
        refine Walk.call (G := Is (.bool true)) (stays_is _ _) rfl 43 rfl (fun a w hm ha hd => ⟨wanted_plain rfl, _, ex_call1 Try.func43 (by kernel_rfl) (by kernel_rfl) rfl, by rw [show a.eval (.tmp 30) = _ from (hd.at_ 0 rfl rfl rfl rfl)]; exact Val.made (HRT.out w)⟩) ?_
        refine Walk.val (G := Is (.bool false)) (stays_is _ _) rfl rfl (fun a w hm hd => ⟨wanted_plain rfl, st_not rfl (hd.at_ 1 rfl rfl rfl rfl)⟩) ?_
        refine Walk.val (G := Is (.bool false)) (stays_is _ _) rfl rfl (fun a w hm hd => ⟨wanted_plain rfl, st_move rfl (hd.at_ 2 rfl rfl rfl rfl)⟩) ?_
        refine Walk.val (G := Is (.pointer (some ⟨gt, 2, none⟩))) (stays_is _ _) rfl rfl (fun a w hm hd => ⟨wanted_at rfl rfl (hd.at_ 3 rfl rfl rfl rfl), st_fieldT2 rfl (by rw [hm.outer 9 (by kernel_rfl)]; rfl)⟩) ?_
        refine Walk.val (G := Is (.int .i64 t.back)) (stays_is _ _) rfl rfl (fun a w hm hd => ⟨wanted_at rfl rfl (hd.at_ 3 rfl rfl rfl rfl), st_cell rfl (fun _ => by kernel_rfl) (hd.at_ 4 rfl rfl rfl rfl) ((HT5.out.grown0 (GrownX.none2 hm.grow)).cell (j := 2) rfl)⟩) ?_
        refine Walk.val (G := Is (.pointer (some ⟨gm, 0, none⟩))) (stays_is _ _) rfl rfl (fun a w hm hd => ⟨wanted_at rfl rfl (hd.at_ 3 rfl rfl rfl rfl), st_move rfl (by rw [hm.outer 7 (by kernel_rfl)]; rfl)⟩) ?_
        refine Walk.val (G := Is (.pointer (some ⟨gm, 0, none⟩))) (stays_is _ _) rfl rfl (fun a w hm hd => ⟨wanted_at rfl rfl (hd.at_ 3 rfl rfl rfl rfl), st_nil rfl (hd.at_ 6 rfl rfl rfl rfl)⟩) ?_
        refine Walk.val (G := Is (.pointer (some ⟨gm, 35091, none⟩))) (stays_is _ _) rfl rfl (fun a w hm hd => ⟨wanted_at rfl rfl (hd.at_ 3 rfl rfl rfl rfl), st_fieldM 6 (by decide) rfl (hd.at_ 7 rfl rfl rfl rfl)⟩) ?_
        refine Walk.val (G := Is (.int .i64 (hn : Int))) (stays_is _ _) rfl rfl (fun a w hm hd => ⟨wanted_at rfl rfl (hd.at_ 3 rfl rfl rfl rfl), st_cell rfl (fun _ => by kernel_rfl) (hd.at_ 8 rfl rfl rfl rfl) (HAT6.out w (GrownX.none2 hm.grow))⟩) ?_
        refine Walk.val (G := Is (.bool true)) (stays_is _ _) rfl rfl (fun a w hm hd => ⟨wanted_at rfl rfl (hd.at_ 3 rfl rfl rfl rfl), st_gtr rfl (hd.at_ 5 rfl rfl rfl rfl) (hd.at_ 9 rfl rfl rfl rfl) HD1.out⟩) ?_
        refine Walk.val (G := Is (.bool true)) (stays_is _ _) rfl rfl (fun a w hm hd => ⟨wanted_plain rfl, st_pickF rfl (hd.at_ 3 rfl rfl rfl rfl) (hd.at_ 10 rfl rfl rfl rfl)⟩) ?_
        refine Walk.val (G := Is (.bool true)) (stays_is _ _) rfl rfl (fun a w hm hd => ⟨wanted_plain rfl, st_move rfl (hd.at_ 11 rfl rfl rfl rfl)⟩) ?_
        refine Walk.skip rfl (fun a w hm hd => unwanted_at rfl rfl (hd.at_ 12 rfl rfl rfl rfl) (by simp)) ?_
        refine Walk.skip rfl (fun a w hm hd => unwanted_at rfl rfl (hd.at_ 12 rfl rfl rfl rfl) (by simp)) ?_
        refine Walk.skip rfl (fun a w hm hd => unwanted_at rfl rfl (hd.at_ 12 rfl rfl rfl rfl) (by simp)) ?_
        refine Walk.skip rfl (fun a w hm hd => unwanted_at rfl rfl (hd.at_ 12 rfl rfl rfl rfl) (by simp)) ?_
        refine Walk.skip rfl (fun a w hm hd => unwanted_at rfl rfl (hd.at_ 12 rfl rfl rfl rfl) (by simp)) ?_
        refine Walk.skip rfl (fun a w hm hd => unwanted_at rfl rfl (hd.at_ 12 rfl rfl rfl rfl) (by simp)) ?_
        refine Walk.skip rfl (fun a w hm hd => unwanted_at rfl rfl (hd.at_ 12 rfl rfl rfl rfl) (by simp)) ?_
        refine Walk.skip rfl (fun a w hm hd => unwanted_at rfl rfl (hd.at_ 12 rfl rfl rfl rfl) (by simp)) ?_
        refine Walk.skip rfl (fun a w hm hd => unwanted_at rfl rfl (hd.at_ 12 rfl rfl rfl rfl) (by simp)) ?_
        refine Walk.val (G := Is (.bool true)) (stays_is _ _) rfl rfl (fun a w hm hd => ⟨wanted_plain rfl, st_pick rfl (hd.at_ 12 rfl rfl rfl rfl) (show Is (.bool true) _ w from rfl)⟩) ?_
        intro a9 V9 hm9 hall
        have f52 : Is (.bool true) (a9.eval (.tmp 52)) V9 := hall 22 _ _ rfl rfl
        have hfr := hm9.frame
        simp only [List.take_succ_cons, List.take_zero, List.filterMap_cons, List.filterMap_nil, List.foldl_cons, List.foldl_nil] at hfr
        have hgV9 := GrownX.none2 hm9.grow
        have f52 : a9.eval (.tmp 52) = _ := f52
        rw [f52] at hfr
        generalize a9.eval (.tmp 30) = e30 at hfr
        generalize a9.eval (.tmp 31) = e31 at hfr
        generalize a9.eval (.tmp 32) = e32 at hfr
        generalize a9.eval (.tmp 33) = e33 at hfr
        generalize a9.eval (.tmp 34) = e34 at hfr
        generalize a9.eval (.tmp 35) = e35 at hfr
        generalize a9.eval (.tmp 36) = e36 at hfr
        generalize a9.eval (.tmp 37) = e37 at hfr
        generalize a9.eval (.tmp 38) = e38 at hfr
        generalize a9.eval (.tmp 39) = e39 at hfr
        generalize a9.eval (.tmp 40) = e40 at hfr
        generalize a9.eval (.tmp 41) = e41 at hfr
        generalize a9.eval (.tmp 42) = e42 at hfr
        generalize a9.eval (.tmp 43) = e43 at hfr
        generalize a9.eval (.tmp 44) = e44 at hfr
        generalize a9.eval (.tmp 45) = e45 at hfr
        generalize a9.eval (.tmp 46) = e46 at hfr
        generalize a9.eval (.tmp 47) = e47 at hfr
        generalize a9.eval (.tmp 48) = e48 at hfr
        generalize a9.eval (.tmp 49) = e49 at hfr
        generalize a9.eval (.tmp 50) = e50 at hfr
        generalize a9.eval (.tmp 51) = e51 at hfr
        clear hall hm9
        unfold wpList
        rw [hfr]
        clear hfr
        go_simp
        go_wp2
        refine bodyPost_ret (results_tmp2 rfl _ _ _) rfl ?_
        exact ⟨_, by rw [HY3.out]; rfl, by rw [HY3.out]; exact RdT.none _, HS5.out.grow.trans hgV9⟩
      · have HD1 := Lib.hid (show decide ((hn : Int) < t.back) = false by simpa using hbk)
        have HNB := Lib.hid (show -1000000000000000 ≤ (n : Int) - (hn : Int) ∧ (n : Int) - (hn : Int) ≤ 1000000000000000 by omega)
        obtain ⟨bb, hbb⟩ : ∃ bb, decide ((n : Int) - (hn : Int) < t.len) = bb := ⟨_, rfl⟩
        have HD2 := Lib.hid hbb
        have HBB := Lib.hid (show badT n x t = bb by
          unfold badT
          rw [HHN.out, hbb, show right t = true from HTO.out.t]
          have : decide ((hn : Int) < t.back) = false := by simpa using hbk
          rw [this]
          rfl)
        have HBK := Lib.hid (show t.back ≤ (hn : Int) by omega)
        clear hbb hbk
        refine wp_region_walk3 23 [] dis_nil (by kernel_rfl) (by kernel_rfl) (by kernel_rfl) ?_
        simp only [List.take_succ_cons, List.take_zero, List.drop_succ_cons, List.drop_zero]
        refine Walk.val (G := Is (tokV t)) (stays_is _ _) rfl rfl (fun a w hm hd => ⟨wanted_plain rfl, st_loadK rfl (by rw [hm.outer 9 (by kernel_rfl)]; rfl) (HT5.out.grown0 (GrownX.none2 hm.grow))⟩) ?_
        refine Walk.call (G := Is (.bool true)) (stays_is _ _) rfl 43 rfl (fun a w hm ha hd => ⟨wanted_plain rfl, _, ex_call1 Try.func43 (by kernel_rfl) (by kernel_rfl) rfl, by rw [show a.eval (.tmp 30) = _ from (hd.at_ 0 rfl rfl rfl rfl)]; exact Val.made (HRT.out w)⟩) ?_
        refine Walk.val (G := Is (.bool false)) (stays_is _ _) rfl rfl (fun a w hm hd => ⟨wanted_plain rfl, st_not rfl (hd.at_ 1 rfl rfl rfl rfl)⟩) ?_
        refine Walk.val (G := Is (.bool false)) (stays_is _ _) rfl rfl (fun a w hm hd => ⟨wanted_plain rfl, st_move rfl (hd.at_ 2 rfl rfl rfl rfl)⟩) ?_
        refine Walk.val (G := Is (.pointer (some ⟨gt, 2, none⟩))) (stays_is _ _) rfl rfl (fun a w hm hd => ⟨wanted_at rfl rfl (hd.at_ 3 rfl rfl rfl rfl), st_fieldT2 rfl (by rw [hm.outer 9 (by kernel_rfl)]; rfl)⟩) ?_
        refine Walk.val (G := Is (.int .i64 t.back)) (stays_is _ _) rfl rfl (fun a w hm hd => ⟨wanted_at rfl rfl (hd.at_ 3 rfl rfl rfl rfl), st_cell rfl (fun _ => by kernel_rfl) (hd.at_ 4 rfl rfl rfl rfl) ((HT5.out.grown0 (GrownX.none2 hm.grow)).cell (j := 2) rfl)⟩) ?_
        refine Walk.val (G := Is (.pointer (some ⟨gm, 0, none⟩))) (stays_is _ _) rfl rfl (fun a w hm hd => ⟨wanted_at rfl rfl (hd.at_ 3 rfl rfl rfl rfl), st_move rfl (by rw [hm.outer 7 (by kernel_rfl)]; rfl)⟩) ?_
        refine Walk.val (G := Is (.pointer (some ⟨gm, 0, none⟩))) (stays_is _ _) rfl rfl (fun a w hm hd => ⟨wanted_at rfl rfl (hd.at_ 3 rfl rfl rfl rfl), st_nil rfl (hd.at_ 6 rfl rfl rfl rfl)⟩) ?_
        refine Walk.val (G := Is (.pointer (some ⟨gm, 35091, none⟩))) (stays_is _ _) rfl rfl (fun a w hm hd => ⟨wanted_at rfl rfl (hd.at_ 3 rfl rfl rfl rfl), st_fieldM 6 (by decide) rfl (hd.at_ 7 rfl rfl rfl rfl)⟩) ?_
        refine Walk.val (G := Is (.int .i64 (hn : Int))) (stays_is _ _) rfl rfl (fun a w hm hd => ⟨wanted_at rfl rfl (hd.at_ 3 rfl rfl rfl rfl), st_cell rfl (fun _ => by kernel_rfl) (hd.at_ 8 rfl rfl rfl rfl) (HAT6.out w (GrownX.none2 hm.grow))⟩) ?_
        refine Walk.val (G := Is (.bool false)) (stays_is _ _) rfl rfl (fun a w hm hd => ⟨wanted_at rfl rfl (hd.at_ 3 rfl rfl rfl rfl), st_gtr rfl (hd.at_ 5 rfl rfl rfl rfl) (hd.at_ 9 rfl rfl rfl rfl) HD1.out⟩) ?_
        refine Walk.val (G := Is (.bool false)) (stays_is _ _) rfl rfl (fun a w hm hd => ⟨wanted_plain rfl, st_pickF rfl (hd.at_ 3 rfl rfl rfl rfl) (hd.at_ 10 rfl rfl rfl rfl)⟩) ?_
        refine Walk.val (G := Is (.bool false)) (stays_is _ _) rfl rfl (fun a w hm hd => ⟨wanted_plain rfl, st_move rfl (hd.at_ 11 rfl rfl rfl rfl)⟩) ?_
        refine Walk.val (G := Is (.pointer (some ⟨gt, 1, none⟩))) (stays_is _ _) rfl rfl (fun a w hm hd => ⟨wanted_at rfl rfl (hd.at_ 12 rfl rfl rfl rfl), st_fieldT1 rfl (by rw [hm.outer 9 (by kernel_rfl)]; rfl)⟩) ?_
        refine Walk.val (G := Is (.int .i64 t.len)) (stays_is _ _) rfl rfl (fun a w hm hd => ⟨wanted_at rfl rfl (hd.at_ 12 rfl rfl rfl rfl), st_cell rfl (fun _ => by kernel_rfl) (hd.at_ 13 rfl rfl rfl rfl) ((HT5.out.grown0 (GrownX.none2 hm.grow)).cell (j := 1) rfl)⟩) ?_
        refine Walk.val (G := Is (.int .i64 (n : Int))) (stays_is _ _) rfl rfl (fun a w hm hd => ⟨wanted_at rfl rfl (hd.at_ 12 rfl rfl rfl rfl), st_move rfl (by rw [hm.outer 1 (by kernel_rfl)]; rfl)⟩) ?_
        refine Walk.val (G := Is (.pointer (some ⟨gm, 0, none⟩))) (stays_is _ _) rfl rfl (fun a w hm hd => ⟨wanted_at rfl rfl (hd.at_ 12 rfl rfl rfl rfl), st_move rfl (by rw [hm.outer 7 (by kernel_rfl)]; rfl)⟩) ?_
        refine Walk.val (G := Is (.pointer (some ⟨gm, 0, none⟩))) (stays_is _ _) rfl rfl (fun a w hm hd => ⟨wanted_at rfl rfl (hd.at_ 12 rfl rfl rfl rfl), st_nil rfl (hd.at_ 16 rfl rfl rfl rfl)⟩) ?_
        refine Walk.val (G := Is (.pointer (some ⟨gm, 35091, none⟩))) (stays_is _ _) rfl rfl (fun a w hm hd => ⟨wanted_at rfl rfl (hd.at_ 12 rfl rfl rfl rfl), st_fieldM 6 (by decide) rfl (hd.at_ 17 rfl rfl rfl rfl)⟩) ?_
        refine Walk.val (G := Is (.int .i64 (hn : Int))) (stays_is _ _) rfl rfl (fun a w hm hd => ⟨wanted_at rfl rfl (hd.at_ 12 rfl rfl rfl rfl), st_cell rfl (fun _ => by kernel_rfl) (hd.at_ 18 rfl rfl rfl rfl) (HAT6.out w (GrownX.none2 hm.grow))⟩) ?_
        refine Walk.val (G := Is (.int .i64 ((n : Int) - (hn : Int)))) (stays_is _ _) rfl rfl (fun a w hm hd => ⟨wanted_at rfl rfl (hd.at_ 12 rfl rfl rfl rfl), st_subi rfl (hd.at_ 15 rfl rfl rfl rfl) (hd.at_ 19 rfl rfl rfl rfl) rfl HNB.out⟩) ?_
        refine Walk.val (G := Is (.bool bb)) (stays_is _ _) rfl rfl (fun a w hm hd => ⟨wanted_at rfl rfl (hd.at_ 12 rfl rfl rfl rfl), st_gtr rfl (hd.at_ 14 rfl rfl rfl rfl) (hd.at_ 20 rfl rfl rfl rfl) HD2.out⟩) ?_
        refine Walk.val (G := Is (.bool bb)) (stays_is _ _) rfl rfl (fun a w hm hd => ⟨wanted_plain rfl, st_pickF rfl (hd.at_ 12 rfl rfl rfl rfl) (hd.at_ 21 rfl rfl rfl rfl)⟩) ?_
        intro a9 V9 hm9 hall
        have f52 : Is (.bool bb) (a9.eval (.tmp 52)) V9 := hall 22 _ _ rfl rfl
        have hfr := hm9.frame
        simp only [List.take_succ_cons, List.take_zero, List.filterMap_cons, List.filterMap_nil, List.foldl_cons, List.foldl_nil] at hfr
        have hgV9 := GrownX.none2 hm9.grow
        have f52 : a9.eval (.tmp 52) = _ := f52
        rw [f52] at hfr
        generalize a9.eval (.tmp 30) = e30 at hfr
        generalize a9.eval (.tmp 31) = e31 at hfr
        generalize a9.eval (.tmp 32) = e32 at hfr
        generalize a9.eval (.tmp 33) = e33 at hfr
        generalize a9.eval (.tmp 34) = e34 at hfr
        generalize a9.eval (.tmp 35) = e35 at hfr
        generalize a9.eval (.tmp 36) = e36 at hfr
        generalize a9.eval (.tmp 37) = e37 at hfr
        generalize a9.eval (.tmp 38) = e38 at hfr
        generalize a9.eval (.tmp 39) = e39 at hfr
        generalize a9.eval (.tmp 40) = e40 at hfr
        generalize a9.eval (.tmp 41) = e41 at hfr
        generalize a9.eval (.tmp 42) = e42 at hfr
        generalize a9.eval (.tmp 43) = e43 at hfr
        generalize a9.eval (.tmp 44) = e44 at hfr
        generalize a9.eval (.tmp 45) = e45 at hfr
        generalize a9.eval (.tmp 46) = e46 at hfr
        generalize a9.eval (.tmp 47) = e47 at hfr
        generalize a9.eval (.tmp 48) = e48 at hfr
        generalize a9.eval (.tmp 49) = e49 at hfr
        generalize a9.eval (.tmp 50) = e50 at hfr
        generalize a9.eval (.tmp 51) = e51 at hfr
        clear hall hm9
        unfold wpList
        rw [hfr]
        clear hfr
        go_simp
        cases bb with
        | true =>
          have HY3 := Lib.hid (show Y = ([], 4) by
            rw [← HY2.out, if_pos HBB.out]
            rfl)
          go_wp2
          refine bodyPost_ret (results_tmp2 rfl _ _ _) rfl ?_
          exact ⟨_, by rw [HY3.out]; rfl, by rw [HY3.out]; exact RdT.none _, HS5.out.grow.trans hgV9⟩
        | false =>
          have HS6 := Lib.hid (HS5.out.grown0 hgV9)
          have R6 := Lib.hid (HT5.out.grown0 hgV9)
          have d0 := R6.out.cell (j := 0) rfl
          have d1 := R6.out.cell (j := 1) rfl
          have d2 := R6.out.cell (j := 2) rfl
          have HLE := Lib.hid (show t.len ≤ (n : Int) - (hn : Int) by have := of_decide_eq_false HD2.out; omega)
          have HPS := Lib.hid (pass_at gm ⟨L2, x.kind, x.h⟩ t V9 HS6.out.mo HTO.out.len HTO.out.t (by rw [show (⟨L2, x.kind, x.h⟩ : Kst).h.length = hn from HHN.out]; exact HBK.out) (by rw [show (⟨L2, x.kind, x.h⟩ : Kst).h.length = hn from HHN.out]; omega))
          clear HS5 HT5 HAT5 HAT6 hgV9
          go_wp2_with fail
          refine HPS.out.mono ?_
          rintro e w7 ⟨rfl, hm7, hg7⟩
          have HS7 := Lib.hid (HS6.out.pass hm7 hg7)
          have R7 := Lib.hid (R6.out.grown hg7 (fun e => by cases e; exact HNE.out rfl))
          clear d0 d1 d2 hm7 hg7 HS6 R6 HPS
          have d0 := R7.out.cell (j := 0) rfl
          have d1 := R7.out.cell (j := 1) rfl
          have d2 := R7.out.cell (j := 2) rfl
          have HAL := Lib.hid (show acc.length ≤ 65536 by have := HL.out.2.2.1; have := HL.out.1; omega)
          go_wp2_with (first
            | (refine wpList_buildTok rfl _ 37 31 (.inl ⟨rfl, rfl⟩) rfl t rfl ?_)
            | (at_builtin; refine wpList_appTok rfl _ _ 37 31 (.inl ⟨rfl, rfl⟩) rfl w.heap.size (.slice A8 acc.length c8) acc.length (tokCs acc) rfl (own_grown HS7.out.own (grown_alloc (grown_refl _ none) _)) w7.heap.size t rfl (Row.new w7 _ (tokC t)) (by have := HAL.out; omega) (Nat.le_trans HS7.out.grow.size (by simp)) ?_; intro g' c' w8 ho8 hg8 hat8; have HO8 := Lib.hid ho8; have HG8 := Lib.hid hg8; have HAT8 := Lib.hid hat8; clear ho8 hg8 hat8 d0 d1 d2))
          go_roundw
          case rel =>
            have hal := grown_alloc (grown_refl w7 none) (.cells (tokC t).toArray 37)
            have hpl := putTok_len x.h t HTO.out.t
            have hts := tsize_le t
            have htl : tsize t ≤ (n : Int) - (hn : Int) := by have := HLE.out; unfold tsize; omega
            have hl := HL.out
            have hnx : (nextK ⟨L2, x.kind, x.h⟩ L2 t) = nextK x L2 t := rfl
            have hhl := HHN.out
            refine ⟨f', r2, nextK x L2 t, acc ++ [t], ?_, ⟨HTO.out.r, HTO.out.l, HTO.out.len, kindN_le t⟩, ⟨?_, ?_, ?_, ?_⟩, ?_⟩
            · exact (HS7.out.grown0 hal).app HO8.out HG8.out (fun k hk => by
                rcases HAT8.out with e | e
                · exact .inl (by rw [← e]; exact hk)
                · have : k = g' := by simp [Value.ownBlock] at hk; exact hk.symm
                  rw [this, e]
                  exact .inr (Nat.le_refl _))
            · show (putTok x.h t).length ≤ n
              omega
            · show n ≤ f' + (putTok x.h t).length
              omega
            · show (acc ++ [t]).length ≤ (putTok x.h t).length
              rw [List.length_append, List.length_singleton]
              omega
            · rw [List.length_append]; rfl
            · rw [← HY2.out, if_neg (by rw [HBB.out]; simp)]
          case measure =>
            have := HL.out
            show n - (acc.length + 1) < n - sliceLen (.slice A8 acc.length c8)
            show n - (acc.length + 1) < n - acc.length
            have := HHN.out
            omega
    · have hd : decide ((hn : Int) < (n : Int)) = false := by simp; omega
      have HE := Lib.hid (end_any g vb r wr hh.rs (by have := ho.1.wide; omega))
      have HY2 := Lib.hid (show endR (some acc, r) = Y by
        rw [← hy]
        cases f with
        | zero => rfl
        | succ f => rw [readF, if_neg (show ¬ x.h.length < n by omega)])
      have HTK := Lib.hid (RdT.of_own rfl hh.own)
      have HGR := Lib.hid hh.grow
      clear hh ho hl hy HY HS hhn
      rw [hf8] at HTK
      subst hf8
      by_cases he : endN r = 0
      · have HY3 := Lib.hid (show Y = (acc, 0) by
          rw [← HY2.out]
          unfold endR
          unfold endN at he
          simp only
          split at he
          · cases he
          · rename_i h1
            rw [if_neg h1]
            split at he
            · cases he
            · rename_i h2
              rw [if_neg h2])
        rw [he] at HE
        go_wp2_with fail
        refine HE.out.mono ?_
        rintro e w3 ⟨rfl, hg3⟩
        have HG3 := Lib.hid hg3
        clear hg3
        go_wp2
        refine bodyPost_ret (results_tmp2 rfl _ _ _) rfl ?_
        exact ⟨_, by rw [HY3.out]; rfl, by rw [HY3.out]; exact HTK.out.grown0 HG3.out, HGR.out.trans HG3.out⟩
      · have HY3 := Lib.hid (show Y = ([], endN r) by
          rw [← HY2.out]
          unfold endR
          unfold endN at he ⊢
          simp only
          split
          · rfl
          · rename_i h1
            rw [if_neg h1] at he
            split
            · rfl
            · rename_i h2
              rw [if_neg h2] at he
              exact absurd rfl he)
        have hne : ((endN r : Int) == 0) = false := by rw [beq_eq_false_iff_ne]; omega
        have hne2 : (endN r == 0) = false := by rw [beq_eq_false_iff_ne]; exact he
        generalize endN r = z at *
        go_wp2_with fail
        refine HE.out.mono ?_
        rintro e w3 ⟨rfl, hg3⟩
        have HG3 := Lib.hid hg3
        clear hg3
        go_wp2
        refine bodyPost_ret (results_tmp2 rfl _ _ _) rfl ?_
        exact ⟨_, by rw [HY3.out]; rfl, by rw [HY3.out]; exact RdT.none _, HGR.out.trans HG3.out⟩
end Go.Proofs.Ytibofgokdjbomaa
