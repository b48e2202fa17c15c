/-
  match's pass over this program.
-/
import Derived.Test.YtibofgokdjbomaaParser
import Derived.Test.YtibofgokdjbomaaIntOps
import Derived.Test.YtibofgokdjbomaaTokPut
import Derived.StillTailTactics
namespace Go.Proofs.Ytibofgokdjbomaa
set_option maxRecDepth 1000000
open Go.RowKit

section
variable {o : Oper} {a : Act} {w : World}
theorem st_nilP {x : Operand} {p : Addr} (h : o.op = .nilCheck x) (hx : Is (.pointer (some p)) (a.eval x) w) : Runs (Is (.pointer (some p))) o a w := by
  have hx' : a.eval x = .pointer (some p) := hx
  refine ⟨_, ?_, rfl⟩
  simp only [execOp, h, hx']
  simp [go_sem]
theorem st_fieldP2 {x : Operand} {g : Nat} (h : o.op = .fieldAddr 114 x 2) (hx : Is (.pointer (some ⟨g, 0, none⟩)) (a.eval x) w) : Runs (Is (.pointer (some ⟨g, 2, none⟩))) o a w := by
  have hx' : a.eval x = .pointer (some ⟨g, 0, none⟩) := hx
  refine ⟨_, ?_, rfl⟩
  simp only [execOp, h, hx']
  kernel_rfl
theorem st_fieldP4 {x : Operand} {g : Nat} (h : o.op = .fieldAddr 114 x 4) (hx : Is (.pointer (some ⟨g, 0, none⟩)) (a.eval x) w) : Runs (Is (.pointer (some ⟨g, 4, none⟩))) o a w := by
  have hx' : a.eval x = .pointer (some ⟨g, 0, none⟩) := hx
  refine ⟨_, ?_, rfl⟩
  simp only [execOp, h, hx']
  kernel_rfl
theorem st_indexP {x y : Operand} {g n c i : Nat} (h : o.op = .indexAddr 112 x y) (hx : Is (.slice (some ⟨g, 0, none⟩) n c) (a.eval x) w) (hy : Is (.int .i64 (i : Int)) (a.eval y) w) (hi : i < n) : Runs (Is (.pointer (some ⟨g, i, none⟩))) o a w := by
  have hx' : a.eval x = .slice (some ⟨g, 0, none⟩) n c := hx
  have hy' : a.eval y = .int .i64 (i : Int) := hy
  have hs : (sizeOf 3).run Try.prog w = .ok 1 w := by kernel_rfl
  refine ⟨_, ?_, rfl⟩
  simp only [execOp, h, hx', hy']
  simp [go_sem, hi, hs, Addr.add]
  omega
end
theorem wpList_storeP {ops : Array Oper} {rest : List Oper} {o : Oper} {a : Act} {w : World} {Q : Exit → Act → World → Prop} (hgd : o.guard = none) (hdst : o.dst = none) (x y : Operand) (ho : o.op = .store 3 x y) (g i : Nat) (t : TypeId) (cs : List Value) (n : Int)
    (hv : a.eval x = .pointer (some ⟨g, i, none⟩)) (hy : a.eval y = .int .i64 n) (hr : Row w g t cs) (hi : i < cs.length) (h : wpList Try.prog ops Q rest a (w.setCell ⟨g, i, none⟩ (.int .i64 n))) : wpList Try.prog ops Q (o :: rest) a w := by
  have hf := hr.frozen i
  have hc := hr.cell (j := i) (u := cs[i]) (List.getElem?_eq_getElem hi)
  refine wpList_plain hgd fun _ hK => ?_
  have hrun : (execOp a.eval o).run Try.prog w = .ok .skip (w.setCell ⟨g, i, none⟩ (.int .i64 n)) := by
    simp only [execOp, ho, hv, hy]
    simp [go_sem, hc, hf]
  unfold Oper.wp
  rw [hrun, Oper.upon_skip]
  refine hK _ _ ?_
  rw [hdst]
  exact h
theorem Seen.made {f : FuncId} {args : Array Value} {v : Value} {w : World} (h : Calls Try.prog f args w (Seen v w)) : Calls Try.prog f args w fun e w' => ∃ u, e = .returned u ∧ w.grownBy w' none ∧ Is v u w' :=
  h.mono fun _ _ x => ⟨v, x.val.1, x.val.2, rfl⟩

theorem lastM_next (b : List UInt8) (q : Nat) (x : Tri) : lastM b (q + 1) x = if tri b q = some x then some (q : Int) else lastM b q x := by
  unfold lastM
  rw [lastP]
  split <;> simp

/-- Ahead of the last step of a round: all but the place is as it must be. -/
structure Half (w : World) (gp gb gm : Nat) (A : Option Addr) (c : Nat) (b : List UInt8) (win : Int) (q : Nat) : Prop where
  row : Row w gp 114 [.slice A b.length c, .int .i64 win, .int .i64 (q : Int), .map (some gm), .slice (some ⟨gb, 0, none⟩) b.length b.length]
  rd : Rd w (.slice A b.length c) (bytesV b)
  bef : ∃ l : List Int, Row w gb 3 (intCs l) ∧ l.length = b.length ∧ ∀ q', q' < q + 1 → l[q']? = some (prevP b q')
  ne : gp ≠ gb ∧ gp ≠ gm ∧ gb ≠ gm
  own : ∀ g, (Value.slice A b.length c).ownBlock = some g → g ≠ gp ∧ g ≠ gb ∧ g ≠ gm
  le : q + 1 ≤ b.length
theorem Half.map_turned {w w' : World} {gp gb gm : Nat} {A : Option Addr} {c : Nat} {b : List UInt8} {win : Int} {q : Nat} (h : Half w gp gb gm A c b win q) (hg : w.grownBy w' (some gm)) : Half w' gp gb gm A c b win q := by
  obtain ⟨h1, h2, ⟨l, h3, h4, h5⟩, h6, h7, h8⟩ := h
  exact ⟨h1.grown hg (by simp; exact h6.2.1), h2.grown hg (fun g e => by simp; exact (h7 g e).2.2), ⟨l, h3.grown hg (by simp; exact h6.2.2), h4, h5⟩, h6, h7, h8⟩
theorem Half.grown0 {w w' : World} {gp gb gm : Nat} {A : Option Addr} {c : Nat} {b : List UInt8} {win : Int} {q : Nat} (h : Half w gp gb gm A c b win q) (hg : w.grownBy w' none) : Half w' gp gb gm A c b win q := by
  obtain ⟨h1, h2, ⟨l, h3, h4, h5⟩, h6, h7, h8⟩ := h
  exact ⟨h1.grown0 hg, h2.grown0 hg, ⟨l, h3.grown0 hg, h4, h5⟩, h6, h7, h8⟩
theorem Prs.half {w : World} {gp gb gm : Nat} {A : Option Addr} {c : Nat} {b : List UInt8} {win : Int} {q : Nat} (h : Prs w gp gb gm A c b win q) (hq : q < b.length) :
    Half (w.setCell ⟨gb, q, none⟩ (.int .i64 (prevP b q))) gp gb gm A c b win q ∧ Mp (w.setCell ⟨gb, q, none⟩ (.int .i64 (prevP b q))) gm q (lastM b q) := by
  obtain ⟨h1, h2, ⟨l, h3, h4, h5⟩, hm, h6, h7, h8⟩ := h
  have hg := grown_set w gb q (.int .i64 (prevP b q))
  refine ⟨⟨h1.grown hg (by simp; exact h6.1), h2.grown hg (fun g e => by simp; exact (h7 g e).2.1), ⟨l.set q (prevP b q), ?_, by simpa using h4, fun q' hq' => ?_⟩, h6, h7, hq⟩, hm.kept hg (by simp; exact fun e => h6.2.2 e.symm)⟩
  · have := h3.set q (.int .i64 (prevP b q))
    unfold intCs at this ⊢
    rw [List.map_set]
    exact this
  · rw [List.getElem?_set]
    by_cases e : q = q'
    · subst e
      rw [if_pos rfl, if_pos (by omega)]
    · rw [if_neg e]
      exact h5 q' (by omega)
theorem Half.whole {w : World} {gp gb gm : Nat} {A : Option Addr} {c : Nat} {b : List UInt8} {win : Int} {q : Nat} (h : Half w gp gb gm A c b win q) (hm : Mp w gm (q + 1) (lastM b (q + 1))) :
    Prs (w.setCell ⟨gp, 2, none⟩ (.int .i64 ((q : Int) + 1))) gp gb gm A c b win (q + 1) := by
  obtain ⟨h1, h2, ⟨l, h3, h4, h5⟩, h6, h7, h8⟩ := h
  have hg := grown_set w gp 2 (.int .i64 ((q : Int) + 1))
  exact ⟨h1.set 2 _, h2.grown hg (fun g e => by simp; exact (h7 g e).1), ⟨l, h3.grown hg (by simp; exact fun e => h6.1 e.symm), h4, h5⟩, hm.kept hg (by simp; exact fun e => h6.2.1 e.symm), h6, h7, h8⟩

/-- What pass keeps: the parser's own blocks alone are turned. -/
structure Keeps (gp gb gm : Nat) (w W : World) : Prop where
  os : W.os = w.os
  tape : W.tape = w.tape
  output : W.output = w.output
  size : w.heap.size ≤ W.heap.size
  block : ∀ k, k < w.heap.size → k ≠ gp → k ≠ gb → k ≠ gm → W.heap[k]? = w.heap[k]?
theorem Keeps.refl (gp gb gm : Nat) (w : World) : Keeps gp gb gm w w := ⟨rfl, rfl, rfl, Nat.le_refl _, fun _ _ _ _ _ => rfl⟩
theorem keeps_row {gp gb gm g : Nat} {w W W' : World} (h : Keeps gp gb gm w W) (hg : W.grownBy W' (some g)) (hm : g = gp ∨ g = gb ∨ g = gm) : Keeps gp gb gm w W' :=
  ⟨hg.os.trans h.os, hg.tape.trans h.tape, hg.output.trans h.output, Nat.le_trans h.size hg.size, fun k hk n1 n2 n3 =>
    (hg.block k (Nat.lt_of_lt_of_le hk h.size) (fun e => by cases e; rcases hm with rfl | rfl | rfl <;> contradiction)).trans (h.block k hk n1 n2 n3)⟩
theorem keeps_none {gp gb gm : Nat} {w W W' : World} (h : Keeps gp gb gm w W) (hg : W.grownBy W' none) : Keeps gp gb gm w W' :=
  ⟨hg.os.trans h.os, hg.tape.trans h.tape, hg.output.trans h.output, Nat.le_trans h.size hg.size, fun k hk n1 n2 n3 =>
    (hg.block k (Nat.lt_of_lt_of_le hk h.size) (by simp)).trans (h.block k hk n1 n2 n3)⟩
theorem keeps_below {gp gb gm : Nat} {w0 w W : World} (hw : w0.grownBy w none) (h : Keeps gp gb gm w W) (h1 : w0.heap.size ≤ gp) (h2 : w0.heap.size ≤ gb) (h3 : w0.heap.size ≤ gm) : w0.grownBy W none :=
  ⟨h.os.trans hw.os, h.tape.trans hw.tape, h.output.trans hw.output, Nat.le_trans hw.size h.size, fun k hk _ =>
    (h.block k (Nat.lt_of_lt_of_le hk hw.size) (by omega) (by omega) (by omega)).trans (hw.block k hk (by simp))⟩

set_option maxHeartbeats 8000000 in
theorem pass_any (gp gb gm : Nat) (A : Option Addr) (c : Nat) (b : List UInt8) (win : Int) (p n : Nat) (w : World) (h : Prs w gp gb gm A c b win p) (hn : p + n ≤ b.length) (hsm : b.length ≤ 100000) :
    Calls Try.prog 68 #[.pointer (some ⟨gp, 0, none⟩), .int .i64 (n : Int)] w fun e w' => e = .returned (.tuple #[]) ∧ Prs w' gp gb gm A c b win (p + n) ∧ Keeps gp gb gm w w' := by
  have HP := Lib.hid h
  have HN := Lib.hid hn
  have HS := Lib.hid hsm
  have hnn : n ≤ 100000 := by omega
  clear h hn hsm
  go_enter Try.func68, Try.ntmps68
  go_wp2
  go_loopw [6] (fun i W => ∃ k : Nat, k ≤ n ∧ i = .int .i64 k ∧ Prs W gp gb gm A c b win (p + k) ∧ Keeps gp gb gm w W) (fun i _ => n - (intOf i).toNat)
  case atStart => exact ⟨0, Nat.zero_le _, rfl, HP.out, Keeps.refl _ _ _ _⟩
  case round =>
    obtain ⟨k, hk, rfl, hpr, hbl⟩ := hrel
    by_cases hlt : k < n
    · have HNQ := Lib.hid (show p + (k + 1) = p + k + 1 by omega)
      have HQB := Lib.hid (show p + k < b.length by have := HN.out; omega)
      generalize p + k = q at *
      have hqb : q < b.length := HQB.out
      have r0 := hpr.row.cell (j := 0) rfl
      have r2 := hpr.row.cell (j := 2) rfl
      obtain ⟨hrl, hrc, hrm⟩ := hpr.rd.len
      obtain ⟨ad, rfl⟩ : ∃ ad, A = some ad := by
        obtain ⟨ad, e, _⟩ := hpr.rd.cells (by intro e; have := congrArg List.length e; rw [bytesV_len] at this; simp at this; subst this; simp at hqb)
        exact ⟨ad, e⟩
      have hv4 := hpr.rd.drop (n := q) (by omega)
      rw [show (bytesV b).drop q = bytesV (b.drop q) by simp [bytesV, List.map_drop]] at hv4
      have HPR := Lib.hid hpr
      have HV4 := Lib.hid hv4
      have HBL := Lib.hid hbl
      clear hpr hv4 hbl
      go_wp2
      go_quiet (fail)
      have hgq := grown_drewN (grown_refl wr none) nq
      generalize hW2 : wr.drewN nq = W2 at *
      have HQ := Lib.hid (HPR.out.grown0 hgq)
      have HV4 := Lib.hid (HV4.out.grown0 hgq)
      have HGQ := Lib.hid hgq
      clear hgq hW2 HPR r0 r2
      have hv4 : ∃ v4, Value.slice (Option.map (fun x => x.add q) (some ad)) (b.length - q) (c - q) = v4 := ⟨_, rfl⟩
      obtain ⟨v4, hv4⟩ := hv4
      rw [hv4] at HV4
      have hv4' : Value.slice (some (ad.add q)) (b.length - q) (c - q) = v4 := hv4
      simp only [hv4']
      have HL := Lib.hid (fun W (hW : Prs W gp gb gm (some ad) c b win q) (hr : Rd W v4 (bytesV (b.drop q))) => Seen.made (lastOf_any gp gb gm (some ad) c b win q v4 (b.drop q) W hW hr))
      have HV4E := Lib.hid hv4'
      clear hv4 hv4'
      go_wp2
      refine wp_region_walk3 12 [] dis_nil (by kernel_rfl) (by kernel_rfl) (by kernel_rfl) ?_
      simp only [List.take_succ_cons, List.take_zero, List.drop_succ_cons, List.drop_zero]
      refine Walk.val (G := Is (.pointer (some ⟨gp, 0, none⟩))) (stays_is _ _) rfl rfl (fun a w hm hd => ⟨wanted_plain rfl, st_move rfl (by rw [hm.outer 0 (by kernel_rfl)]; rfl)⟩) ?_
      refine Walk.val (G := Is (.pointer (some ⟨gp, 0, none⟩))) (stays_is _ _) rfl rfl (fun a w hm hd => ⟨wanted_plain rfl, st_nilP rfl (hd.at_ 0 rfl rfl rfl rfl)⟩) ?_
      refine Walk.val (G := Is (.pointer (some ⟨gp, 4, none⟩))) (stays_is _ _) rfl rfl (fun a w hm hd => ⟨wanted_plain rfl, st_fieldP4 rfl (hd.at_ 1 rfl rfl rfl rfl)⟩) ?_
      refine Walk.val (G := Is (.slice (some ⟨gb, 0, none⟩) b.length b.length)) (stays_is _ _) rfl rfl (fun a w hm hd => ⟨wanted_plain rfl, st_cell rfl (fun _ => by kernel_rfl) (hd.at_ 2 rfl rfl rfl rfl) ((HQ.out.row.grown0 hm.grow.none2).cell (j := 4) rfl)⟩) ?_
      refine Walk.val (G := Is (.pointer (some ⟨gp, 0, none⟩))) (stays_is _ _) rfl rfl (fun a w hm hd => ⟨wanted_plain rfl, st_move rfl (by rw [hm.outer 0 (by kernel_rfl)]; rfl)⟩) ?_
      refine Walk.val (G := Is (.pointer (some ⟨gp, 0, none⟩))) (stays_is _ _) rfl rfl (fun a w hm hd => ⟨wanted_plain rfl, st_nilP rfl (hd.at_ 4 rfl rfl rfl rfl)⟩) ?_
      refine Walk.val (G := Is (.pointer (some ⟨gp, 2, none⟩))) (stays_is _ _) rfl rfl (fun a w hm hd => ⟨wanted_plain rfl, st_fieldP2 rfl (hd.at_ 5 rfl rfl rfl rfl)⟩) ?_
      refine Walk.val (G := Is (.int .i64 ((q : Int)))) (stays_is _ _) rfl rfl (fun a w hm hd => ⟨wanted_plain rfl, st_cell rfl (fun _ => by kernel_rfl) (hd.at_ 6 rfl rfl rfl rfl) ((HQ.out.row.grown0 hm.grow.none2).cell (j := 2) rfl)⟩) ?_
      refine Walk.val (G := Is (.pointer (some ⟨gp, 0, none⟩))) (stays_is _ _) rfl rfl (fun a w hm hd => ⟨wanted_plain rfl, st_move rfl (by rw [hm.outer 0 (by kernel_rfl)]; rfl)⟩) ?_
      refine Walk.val (G := Is (v4)) (stays_is _ _) rfl rfl (fun a w hm hd => ⟨wanted_plain rfl, st_move rfl (by rw [hm.outer 4 (by kernel_rfl)]; rfl)⟩) ?_
      refine Walk.call (G := Is (.int .i64 (prevP b q))) (stays_is _ _) rfl 87 rfl (fun a w hm ha hd => ⟨wanted_plain rfl, _, ex_call2 Try.func87 (by kernel_rfl) (by kernel_rfl) rfl, by
        rw [show a.eval (.tmp 25) = _ from (hd.at_ 8 rfl rfl rfl rfl), show a.eval (.tmp 26) = _ from (hd.at_ 9 rfl rfl rfl rfl)]
        exact (HL.out w (HQ.out.grown0 hm.grow.none2) (HV4.out.grown0 hm.grow.none2))⟩) ?_
      refine Walk.val (G := Is (.pointer (some ⟨gb, q, none⟩))) (stays_is _ _) rfl rfl (fun a w hm hd => ⟨wanted_plain rfl, st_indexP rfl (hd.at_ 3 rfl rfl rfl rfl) (hd.at_ 7 rfl rfl rfl rfl) HQB.out⟩) ?_
      intro a9 V9 hm9 hall
      have g28 : a9.eval (.tmp 28) = .pointer (some ⟨gb, q, none⟩) := hall 11 _ _ rfl rfl
      have g27 : a9.eval (.tmp 27) = .int .i64 (prevP b q) := hall 10 _ _ rfl rfl
      have f17 : Is (.pointer (some ⟨gp, 0, none⟩)) (a9.eval (.tmp 17)) V9 := hall 0 _ _ rfl rfl
      have f18 : Is (.pointer (some ⟨gp, 0, none⟩)) (a9.eval (.tmp 18)) V9 := hall 1 _ _ rfl rfl
      have f19 : Is (.pointer (some ⟨gp, 4, none⟩)) (a9.eval (.tmp 19)) V9 := hall 2 _ _ rfl rfl
      have f20 : Is (.slice (some ⟨gb, 0, none⟩) b.length b.length) (a9.eval (.tmp 20)) V9 := hall 3 _ _ rfl rfl
      have f21 : Is (.pointer (some ⟨gp, 0, none⟩)) (a9.eval (.tmp 21)) V9 := hall 4 _ _ rfl rfl
      have f22 : Is (.pointer (some ⟨gp, 0, none⟩)) (a9.eval (.tmp 22)) V9 := hall 5 _ _ rfl rfl
      have f23 : Is (.pointer (some ⟨gp, 2, none⟩)) (a9.eval (.tmp 23)) V9 := hall 6 _ _ rfl rfl
      have f24 : Is (.int .i64 ((q : Int))) (a9.eval (.tmp 24)) V9 := hall 7 _ _ rfl rfl
      have f25 : Is (.pointer (some ⟨gp, 0, none⟩)) (a9.eval (.tmp 25)) V9 := hall 8 _ _ rfl rfl
      have f26 : Is (v4) (a9.eval (.tmp 26)) V9 := hall 9 _ _ rfl rfl
      have f27 : Is (.int .i64 (prevP b q)) (a9.eval (.tmp 27)) V9 := hall 10 _ _ rfl rfl
      have f28 : Is (.pointer (some ⟨gb, q, none⟩)) (a9.eval (.tmp 28)) V9 := hall 11 _ _ rfl rfl
      have hfr := hm9.frame
      simp only [List.take_succ_cons, List.take_zero, List.filterMap_cons, List.filterMap_nil, List.foldl_cons, List.foldl_nil] at hfr
      have hgV9 : W2.grownBy V9 none := GrownX.none2 hm9.grow
      clear hall hm9
      rw [show a9.eval (.tmp 17) = _ from f17] at hfr
      clear f17
      rw [show a9.eval (.tmp 18) = _ from f18] at hfr
      clear f18
      rw [show a9.eval (.tmp 19) = _ from f19] at hfr
      clear f19
      rw [show a9.eval (.tmp 20) = _ from f20] at hfr
      clear f20
      rw [show a9.eval (.tmp 21) = _ from f21] at hfr
      clear f21
      rw [show a9.eval (.tmp 22) = _ from f22] at hfr
      clear f22
      rw [show a9.eval (.tmp 23) = _ from f23] at hfr
      clear f23
      rw [show a9.eval (.tmp 24) = _ from f24] at hfr
      clear f24
      rw [show a9.eval (.tmp 25) = _ from f25] at hfr
      clear f25
      rw [show a9.eval (.tmp 26) = _ from f26] at hfr
      clear f26
      rw [show a9.eval (.tmp 27) = _ from f27] at hfr
      clear f27
      rw [show a9.eval (.tmp 28) = _ from f28] at hfr
      clear f28
      have HV9 := Lib.hid (HQ.out.grown0 hgV9)
      have e4 := HV4E.out
      have HRD4 := Lib.hid (show Rd V9 v4 (bytesV (b.drop q)) from HV4.out.grown0 hgV9)
      subst e4
      obtain ⟨lb, hlr, hll, _⟩ := HV9.out.bef
      refine wpList_storeP rfl rfl _ _ rfl gb q 3 (intCs lb) (prevP b q) g28 g27 hlr (by simp [intCs]; omega) ?_
      obtain ⟨HF, HM⟩ := HV9.out.half hqb
      have HK3 := Lib.hid (keeps_row (keeps_none (keeps_none HBL.out HGQ.out) hgV9) (grown_set V9 gb q (.int .i64 (prevP b q))) (.inr (.inl rfl)))
      have HRD4 := Lib.hid (HRD4.out.grown (grown_set V9 gb q (.int .i64 (prevP b q))) (fun g e => by
        have := (HV9.out.own g (by rw [← e]; exact (own_map (some ad) q _ _ _ _).symm)).2.1
        simpa using this))
      clear g27 g28 hlr hll HL HV4 HBL HGQ hgV9 HQ HV4E
      unfold wpList
      rw [hfr]
      clear hfr
      go_simp
      generalize hW3 : V9.setCell ⟨gb, q, none⟩ (.int .i64 (prevP b q)) = W3 at *
      have HF := Lib.hid HF
      have HM := Lib.hid HM
      clear hW3 HV9
      by_cases h3 : 3 ≤ b.length - q
      · have hd : decide (3 ≤ ((b.length - q : Nat) : Int)) = true := by simp; omega
        obtain ⟨x, y, z', ht⟩ := first3_some (l := b.drop q) (by simp; omega)
        have ht3 := first3_at ht
        obtain ⟨ad', e, hc⟩ := HRD4.out.cells (by intro e; have := congrArg List.length e; rw [bytesV_len] at this; simp at this; omega)
        obtain rfl : ad.add q = ad' := by simpa using e
        have k0 := hc 0 (byteV x) (by rw [bytesV, List.getElem?_map, ht3.1]; rfl)
        have k1 := hc 1 (byteV y) (by rw [bytesV, List.getElem?_map, ht3.2.1]; rfl)
        have k2 := hc 2 (byteV z') (by rw [bytesV, List.getElem?_map, ht3.2.2.1]; rfl)
        rw [show (ad.add q).add 0 = ad.add q by unfold Addr.add; simp] at k0
        rw [show (ad.add q).add 1 = ⟨(ad.add q).block, (ad.add q).off + 1, none⟩ by rw [Addr.add]; simp] at k1
        rw [show (ad.add q).add 2 = ⟨(ad.add q).block, (ad.add q).off + 2, none⟩ by rw [Addr.add]; simp] at k2
        unfold byteV at k0 k1 k2
        have harr := fun w => run_arrayAt (ad.add q) (b.length - q) (c - q) w h3
        have r0 : W3.drew.cell? ⟨gp, 0, none⟩ = some (.slice (some ad) b.length c) := HF.out.row.cell (j := 0) rfl
        have r2 : W3.drew.cell? ⟨gp, 2, none⟩ = some (.int .i64 (q : Int)) := HF.out.row.cell (j := 2) rfl
        have r3 : W3.drew.cell? ⟨gp, 3, none⟩ = some (.map (some gm)) := HF.out.row.cell (j := 3) rfl
        have k0 : W3.drew.cell? _ = _ := k0
        have k1 : W3.drew.cell? _ = _ := k1
        have k2 : W3.drew.cell? _ = _ := k2
        obtain ⟨w5, hup, M5, G5⟩ := (show Mp W3.drew gm q (lastM b q) from HM.out).store (by have := HS.out; unfold maxLen; omega) (x, y, z') (q : Int) (by
          have := HS.out
          simp [Lit.wf, IntKind.min, IntKind.max, IntKind.bits, IntKind.signed]; omega)
        have M5 := Lib.hid (M5.same (M' := lastM b (q + 1)) (fun u => by
          rw [lastM_next, show tri b q = some (x, y, z') from ht]
          by_cases e : u = (x, y, z')
          · rw [if_pos e, e, if_pos rfl]
          · rw [if_neg e, if_neg (fun h => e (Option.some.inj h).symm)]))
        have F5 := Lib.hid ((HF.out.grown0 (grown_drew (grown_refl W3 none))).map_turned G5)
        have K5 := Lib.hid (keeps_row (keeps_none HK3.out (grown_drew (grown_refl W3 none))) G5 (.inr (.inr rfl)))
        have s2 := F5.out.row.cell (j := 2) rfl
        have t2 := F5.out.row.frozen 2
        unfold triV at hup
        simp only at hup
        have HE := Lib.hid (F5.out.whole M5.out)
        have HK6 := Lib.hid (keeps_row K5.out (grown_set w5 gp 2 (.int .i64 ((q : Int) + 1))) (.inl rfl))
        have hqs : q ≤ 100000 := by have := HS.out; omega
        clear ht ht3 e hc M5 G5 HF HM HRD4 F5 K5
        go_wp2
        refine wp_region_still_tail 11 (by kernel_rfl) (by kernel_rfl) ?_
        change wpStill _ _ W3.drew (fun a' => wpList _ _ _ _ a' W3.drew) _ _
        generalize W3.drew = W4 at *
        simp only [List.take_succ_cons, List.take_zero, List.drop_succ_cons, List.drop_zero]
        repeat still_step
        refine wpStill_nil ?_
        go_wp2
        go_roundw
        case rel => exact ⟨k + 1, by omega, rfl, by rw [HNQ.out]; exact HE.out, HK6.out⟩
        case measure => simp only [intOf]; omega
      · have hd : decide (3 ≤ ((b.length - q : Nat) : Int)) = false := by simp; omega
        have r2 := HF.out.row.cell (j := 2) rfl
        have t2 := HF.out.row.frozen 2
        have HE := Lib.hid (HF.out.whole ((HM.out.mono (Nat.le_succ q)).same (fun x => by rw [lastM_next, show tri b q = none from first3_none (by simp; omega)]; simp)))
        have HK4 := Lib.hid (keeps_row HK3.out (grown_set W3 gp 2 (.int .i64 ((q : Int) + 1))) (.inl rfl))
        have hqs : q ≤ 100000 := by have := HS.out; omega
        clear HF HM HRD4
        go_wp2
        go_roundw
        case rel => exact ⟨k + 1, by omega, rfl, by rw [HNQ.out]; exact HE.out, HK4.out⟩
        case measure => simp only [intOf]; omega
    · have hkn : k = n := by omega
      subst hkn
      go_wp2
      refine bodyPost_end (results_none rfl _ _ _) rfl ?_
      exact ⟨rfl, hpr, hbl⟩
end Go.Proofs.Ytibofgokdjbomaa
