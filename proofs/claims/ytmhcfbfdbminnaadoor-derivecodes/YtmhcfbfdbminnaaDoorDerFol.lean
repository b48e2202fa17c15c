/-
  derive.following and the function that it answers, over this program: one derived part at each call.
-/
import Derived.Test.YtmhcfbfdbminnaaDoorDerCode
namespace Go.Proofs.YtmhcfbfdbminnaaDoor
open Go.RowKit

theorem Rd.keptNe {w w' : World} {v : Value} {l : List UInt8} (h : Rd w v (bytesV l)) (hk : l ≠ [] → ∀ b, v.ownBlock = some b → b < w.heap.size → w'.heap[b]? = w.heap[b]?) : Rd w' v (bytesV l) := by
  rcases l with _ | ⟨x, l⟩
  · obtain ⟨A, c, rfl, h1, h2, _⟩ := h
    exact ⟨A, c, rfl, h1, h2, fun h => absurd rfl h⟩
  · exact h.keep (hk (by simp))
theorem Tab.kept {w w' : World} (h : Tab w) (hb : w'.heap[0]? = w.heap[0]?) : Tab w' := fun i hi => (World.cell?_of_block (a := ⟨0, i, none⟩) hb).trans (h i hi)

/-- What the function keeps in memory behind i parts: how many there were, what they are under, the last one, the purpose. -/
structure Fol (w : World) (gc gu gl gp : Nat) (p q : List UInt8) (i : Nat) : Prop where
  count : Row w gc 5 [.int .u8 (i : Int)]
  under : Row w gu 24 (bytesV p)
  last : ∃ u, Row w gl 22 [u] ∧ Rd w u (bytesV (part p q i)) ∧ (part p q i ≠ [] → u.ownBlock ≠ some gc ∧ u.ownBlock ≠ some gl)
  purp : ∃ u, Row w gp 22 [u] ∧ Rd w u (bytesV q) ∧ (q ≠ [] → u.ownBlock ≠ some gc ∧ u.ownBlock ≠ some gl)
  apart : gc ≠ gu ∧ gc ≠ gl ∧ gc ≠ gp ∧ gu ≠ gl ∧ gl ≠ gp ∧ gc ≠ 0 ∧ gl ≠ 0

theorem Fol.grown {w w' : World} {gc gu gl gp : Nat} {p q : List UInt8} {i : Nat} (h : Fol w gc gu gl gp p q i) (hg : w.grownBy w' none) : Fol w' gc gu gl gp p q i := by
  obtain ⟨h1, h2, ⟨u, h3, h4, h5⟩, ⟨v, h6, h7, h8⟩, h9⟩ := h
  exact ⟨h1.grown0 hg, h2.grown0 hg, ⟨u, h3.grown0 hg, h4.grown0 hg, h5⟩, ⟨v, h6.grown0 hg, h7.grown0 hg, h8⟩, h9⟩

/-- A step that may turn a block g that is none of these, nor one that they point into. -/
theorem Fol.other {w w' : World} {g gc gu gl gp : Nat} {p q : List UInt8} {i : Nat} (h : Fol w gc gu gl gp p q i) (hg : w.grownBy w' (some g)) (hne : g ≠ gc ∧ g ≠ gu ∧ g ≠ gl ∧ g ≠ gp)
    (hl : ∀ u, Row w gl 22 [u] → part p q i ≠ [] → u.ownBlock ≠ some g) (hq : ∀ u, Row w gp 22 [u] → q ≠ [] → u.ownBlock ≠ some g) : Fol w' gc gu gl gp p q i := by
  obtain ⟨h1, h2, ⟨u, h3, h4, h5⟩, ⟨v, h6, h7, h8⟩, h9⟩ := h
  obtain ⟨e1, e2, e3, e4⟩ := hne
  refine ⟨h1.grown hg (by simpa using e1.symm), h2.grown hg (by simpa using e2.symm), ⟨u, h3.grown hg (by simpa using e3.symm), h4.keptNe (fun hn b hb hlt => hg.block b hlt (fun e => hl u h3 hn (hb.trans e))), h5⟩,
    ⟨v, h6.grown hg (by simpa using e4.symm), h7.keptNe (fun hn b hb hlt => hg.block b hlt (fun e => hq v h6 hn (hb.trans e))), h8⟩, h9⟩

/-- What one call of it leaves. -/
def Folled (w : World) (gc gu gl gp : Nat) (p q : List UInt8) (i : Nat) (e : Ending) (w' : World) : Prop :=
  e = .returned (.agg (bytesV (part p q (i + 1))).toArray) ∧ Fol w' gc gu gl gp p q (i + 1) ∧ GrownX [gc, gl] w w' ∧ ∀ u, Row w' gl 22 [u] → ∀ b, u.ownBlock = some b → w.heap.size ≤ b

section
variable {o : Oper} {a : Act} {w : World}
theorem ex_loadS {x : Operand} {g : Nat} {v : Value} (h : o.op = .load 22 x) (hx : a.eval x = .pointer (some ⟨g, 0, none⟩)) (hr : Row w g 22 [v]) : (execOp a.eval o).run Tryd.prog w = .ok (.value v) w := by
  have hc := hr.cell (j := 0) rfl
  simp only [execOp, h, hx]
  simp [go_sem, hc]
theorem ex_load8 {x : Operand} {g : Nat} {v : Value} (h : o.op = .load 5 x) (hx : a.eval x = .pointer (some ⟨g, 0, none⟩)) (hr : Row w g 5 [v]) : (execOp a.eval o).run Tryd.prog w = .ok (.value v) w := by
  have hc := hr.cell (j := 0) rfl
  simp only [execOp, h, hx]
  simp [go_sem, hc]
theorem ex_build1B {x0 : Operand} {b0 : UInt8} (h : o.op = .buildSlice 22 1 #[(0, x0)]) (h0 : a.eval x0 = byteV b0) :
    (execOp a.eval o).run Tryd.prog w = .ok (.value (.slice (some ⟨w.heap.size, 0, none⟩) 1 1)) (w.alloc (.cells #[byteV b0] 5)) := by
  have h0' : a.eval x0 = .int .u8 (b0.toNat : Int) := h0
  simp only [execOp, h, h0', List.map_toArray, List.map_cons, List.map_nil]
  go_simp
  rfl
theorem ex_build3S {x0 x1 x2 : Operand} {u0 u1 u2 : Value} {A0 A1 A2 : Option Addr} {n0 c0 n1 c1 n2 c2 : Nat} (h : o.op = .buildSlice 33 3 #[(0, x0), (1, x1), (2, x2)])
    (h0 : a.eval x0 = u0) (h1 : a.eval x1 = u1) (h2 : a.eval x2 = u2) (e0 : u0 = .slice A0 n0 c0) (e1 : u1 = .slice A1 n1 c1) (e2 : u2 = .slice A2 n2 c2) :
    (execOp a.eval o).run Tryd.prog w = .ok (.value (.slice (some ⟨w.heap.size, 0, none⟩) 3 3)) (w.alloc (.cells #[u0, u1, u2] 22)) := by
  subst e0 e1 e2
  simp only [execOp, h, h0, h1, h2, List.map_toArray, List.map_cons, List.map_nil]
  go_simp
theorem ex_alloc32 (h : o.op = .alloc 24) : (execOp a.eval o).run Tryd.prog w = .ok (.value (.pointer (some ⟨w.heap.size, 0, none⟩))) (w.alloc (.cells (noughts8 32).toArray 24)) := by
  simp only [execOp, h]
  kernel_rfl
end

set_option maxHeartbeats 4000000 in
theorem fol_any (gc gu gl gp : Nat) (p q : List UInt8) (i : Nat) (w : World) (hT : Tab w) (h : Fol w gc gu gl gp p q i) (hi : i < 255) (hp : p.length = 32) (hq : q.length ≤ 1000000) :
    Calls Tryd.prog 32 #[.pointer (some ⟨gc, 0, none⟩), .pointer (some ⟨gu, 0, none⟩), .pointer (some ⟨gl, 0, none⟩), .pointer (some ⟨gp, 0, none⟩)] w (Folled w gc gu gl gp p q i) := by
  have HT := Lib.hid hT
  have HF := Lib.hid h
  have HQ := Lib.hid (And.intro hp hq)
  have hc : ∀ o, (w.alloc o).cell? ⟨gc, 0, none⟩ = some (.int .u8 (i : Int)) := fun o => (h.count.alloc o).cell (j := 0) rfl
  have hf : ∀ o, (w.alloc o).frozen? ⟨gc, 0, none⟩ = false := fun o => (h.count.alloc o).frozen 0
  have hi1 : ((i : Int) + 1) % 256 = ((i + 1 : Nat) : Int) := by omega
  generalize hG : w.heap.size = G
  have HG := Lib.hid hG
  clear hT h hp hq
  go_enter Tryd.func32, Tryd.ntmps32
  go_wp2
  generalize hW : World.setCell (w.alloc _) _ _ = W
  have hg0 := grown_alloc (grown_refl w none) (.cells (noughts8 32).toArray 24)
  have hF0 := HF.out.grown hg0
  have hgW : (w.alloc (.cells (noughts8 32).toArray 24)).grownBy W (some gc) := hW ▸ grown_set _ gc 0 _
  have hgcG : gc < G := hG ▸ HF.out.count.lt
  have hglG : gl < G := by obtain ⟨u, h, _⟩ := HF.out.last; exact hG ▸ h.lt
  have rG : Row W G 24 (noughts8 32) := (Row.newAt w 24 (noughts8 32) hG).grown hgW (by simp; omega)
  have rc : Row W gc 5 [.int .u8 (((i + 1 : Nat)) : Int)] := by
    rw [← hW]
    exact hF0.count.set 0 _
  obtain ⟨ap1, ap2, ap3, ap4, ap5, ap6, ap7⟩ := HF.out.apart
  have ru : Row W gu 24 (bytesV p) := hF0.under.grown hgW (by simpa using Ne.symm ap1)
  obtain ⟨ul, rl0, rdl0, nel⟩ := hF0.last
  have rl : Row W gl 22 [ul] := rl0.grown hgW (by simpa using Ne.symm ap2)
  have rdl : Rd W ul (bytesV (part p q i)) := rdl0.keptNe (fun hn b hb hlt => hgW.block b hlt (fun e => (nel hn).1 (hb.trans e)))
  obtain ⟨uq, rq00, rdq00, neq⟩ := HF.out.purp
  have rq0 := rq00.grown0 hg0
  have rdq0 := rdq00.grown0 hg0
  have HLOW := Lib.hid (fun hn b hb => hG ▸ rdq00.low hn b hb)
  have HUP := Lib.hid (And.intro (hG ▸ HF.out.under.lt) (hG ▸ rq00.lt))
  have rq : Row W gp 22 [uq] := rq0.grown hgW (by simpa using Ne.symm ap3)
  have rdq : Rd W uq (bytesV q) := rdq0.keptNe (fun hn b hb hlt => hgW.block b hlt (fun e => (neq hn).1 (hb.trans e)))
  have hTW : Tab W := (HT.out.grown hg0).kept (hgW.block 0 (HT.out.grown hg0).pos (by simpa using Ne.symm ap6))
  have HS := Lib.hid (And.intro hg0 (And.intro hgW (And.intro hgcG (And.intro hglG (And.intro nel neq)))))
  have HAP := Lib.hid (And.intro ap1 (And.intro ap2 (And.intro ap3 (And.intro ap4 (And.intro ap5 (And.intro ap6 ap7))))))
  have RG := Lib.hid rG
  have RC := Lib.hid rc
  have RU := Lib.hid ru
  have RL := Lib.hid rl
  have RDL := Lib.hid rdl
  have RQ := Lib.hid rq
  have RDQ := Lib.hid rdq
  have HTW := Lib.hid hTW
  have HPART := Lib.hid (show hmac p ([part p q i, q, [UInt8.ofNat (i + 1)]].flatten) = part p q (i + 1) by simp [part])
  have HPL := Lib.hid (show (part p q i).length ≤ 32 by cases i with | zero => exact Nat.zero_le _ | succ i => rw [part_len]; decide)
  have HP32 := Lib.hid (show (bytesV p).length = 32 by rw [bytesV_len, HQ.out.1])
  have HB := Lib.hid (show byteV (UInt8.ofNat (i + 1)) = .int .u8 (((i + 1 : Nat)) : Int) by
    have e : (UInt8.ofNat (i + 1)).toNat = i + 1 := by simp; omega
    unfold byteV
    rw [e])
  clear hW hg0 hF0 hgW hgcG hglG rG rc ap1 ap2 ap3 ap4 ap5 ap6 ap7 ru rl0 rdl0 nel rl rdl rq00 rdq00 rq0 rdq0 neq rq rdq hTW hc hf hi1 hG
  refine wp_region_walk 8 [] dis_nil (by kernel_rfl) (by kernel_rfl) (by kernel_rfl) ?_
  simp only [List.take_succ_cons, List.take_zero, List.drop_succ_cons, List.drop_zero]
  refine Walk.val (G := Is (.slice (some ⟨gu, 0, none⟩) 32 32)) (stays_is _ _) rfl rfl (fun a w hm hd => ⟨wanted_plain rfl, _, ex_slice32 rfl (by rw [hm.outer 1 (by kernel_rfl)]; rfl), rfl⟩) ?_
  refine Walk.val (G := Is ul) (stays_is _ _) rfl rfl (fun a w hm hd => ⟨wanted_plain rfl, _, ex_loadS rfl (by rw [hm.outer 2 (by kernel_rfl)]; rfl) (RL.out.grown0 hm.grow.none'), rfl⟩) ?_
  refine Walk.val (G := Is uq) (stays_is _ _) rfl rfl (fun a w hm hd => ⟨wanted_plain rfl, _, ex_loadS rfl (by rw [hm.outer 3 (by kernel_rfl)]; rfl) (RQ.out.grown0 hm.grow.none'), rfl⟩) ?_
  refine Walk.val (G := Is (.int .u8 (((i + 1 : Nat)) : Int))) (stays_is _ _) rfl rfl (fun a w hm hd => ⟨wanted_plain rfl, _, ex_load8 rfl (by rw [hm.outer 0 (by kernel_rfl)]; rfl) (RC.out.grown0 hm.grow.none'), rfl⟩) ?_
  refine Walk.make (G := IsB [UInt8.ofNat (i + 1)]) (fun _ _ _ _ _ h hg => Rd.grown0 h hg) rfl rfl (fun a w hm _ hd => ⟨wanted_plain rfl, _, _, ex_build1B (b0 := UInt8.ofNat (i + 1)) rfl (by rw [HB.out]; exact hd.at_ 3 rfl rfl rfl rfl), grown_alloc (grown_refl _ _) _, Rd.one w (byteV (UInt8.ofNat (i + 1))) 5⟩) ?_
  refine Walk.make (G := fun v W => ∃ u, Rd W v [ul, uq, u] ∧ IsB [UInt8.ofNat (i + 1)] u W) (fun _ _ _ _ _ ⟨u, h1, h2⟩ hg => ⟨u, h1.grown0 hg, Rd.grown0 h2 hg⟩) rfl rfl (fun a w hm _ hd => ⟨wanted_plain rfl, by
    have h1 : a.eval (.tmp 9) = ul := hd.at_ 1 rfl rfl rfl rfl
    have h2 : a.eval (.tmp 10) = uq := hd.at_ 2 rfl rfl rfl rfl
    have h3 : IsB [UInt8.ofNat (i + 1)] (a.eval (.tmp 12)) w := hd.at_ 4 rfl rfl rfl rfl
    obtain ⟨Au, cu, hu⟩ := Rd.form h3
    obtain ⟨Al, cl, hl⟩ := Rd.form RDL.out
    obtain ⟨Aq, cq, hq⟩ := Rd.form RDQ.out
    exact ⟨_, _, ex_build3S rfl h1 h2 rfl hl hq hu, grown_alloc (grown_refl _ _) _, _, Rd.new w [_, _, _] 22 (0, 0) 3 (Nat.le_refl _) (by decide), Rd.alloc h3 _⟩⟩) ?_
  refine Walk.call (G := Is (.agg (bytesV (part p q (i + 1))).toArray)) (stays_is _ _) rfl 11 rfl (fun a w hm _ hd => ⟨wanted_plain rfl, _, ex_call2 Tryd.func11 (by kernel_rfl) (by kernel_rfl) rfl, by
    obtain ⟨u, h1, h2⟩ := hd.at_ (G := fun v W => ∃ u, Rd W v [ul, uq, u] ∧ IsB [UInt8.ofNat (i + 1)] u W) 5 rfl rfl rfl rfl
    have h0 : a.eval (.tmp 8) = _ := hd.at_ 0 rfl rfl rfl rfl
    rw [h0]
    have hTw := HTW.out.grown hm.grow.none'
    have hp : Parts w [ul, uq, u] [part p q i, q, [UInt8.ofNat (i + 1)]] := Parts.cons (RDL.out.grown0 hm.grow.none') (Parts.cons (RDQ.out.grown0 hm.grow.none') (Parts.cons h2 (Parts.nil _)))
    have hof := code_any (some ⟨gu, 0, none⟩) 32 32 p _ _ _ w hTw ((RU.out.grown0 hm.grow.none').rds 32 32 HP32.out (by decide) (by decide)) h1 hp (by decide) (by simp) (by have := HPL.out; have := HQ.out.2; simp; omega)
    rw [HPART.out] at hof
    refine hof.mono ?_
    rintro e w' ⟨rfl, hg⟩
    exact ⟨_, rfl, hg, rfl⟩⟩) ?_
  refine Walk.make (G := fun v W' => ∃ g, v = .pointer (some ⟨g, 0, none⟩) ∧ Row W' g 24 (noughts8 32) ∧ W.heap.size ≤ g) (fun _ _ _ _ _ ⟨g, h1, h2, h3⟩ hg => ⟨g, h1, h2.grown0 hg, h3⟩) rfl rfl (fun a w hm _ hd => ⟨wanted_plain rfl, _, _, ex_alloc32 rfl, grown_alloc (grown_refl _ _) _, _, rfl, Row.new w _ _, hm.grow.none'.size⟩) ?_
  intro a w7 hm hall
  have f0 : a.eval (.tmp 8) = _ := hall 0 _ _ rfl rfl
  have f1 : a.eval (.tmp 9) = _ := hall 1 _ _ rfl rfl
  have f2 : a.eval (.tmp 10) = _ := hall 2 _ _ rfl rfl
  have f3 : a.eval (.tmp 11) = _ := hall 3 _ _ rfl rfl
  have f6 : a.eval (.tmp 14) = .agg (bytesV (part p q (i + 1))).toArray := hall 6 _ _ rfl rfl
  obtain ⟨g5, f7, r5, hg5⟩ := hall 7 _ _ rfl rfl
  have f7' : a.eval (.tmp 5) = .pointer (some ⟨g5, 0, none⟩) := f7
  have HG5 := Lib.hid hg5
  have R57 := Lib.hid r5
  have HGW7 := Lib.hid hm.grow.none'
  have HL32 := Lib.hid (show (bytesV (part p q (i + 1))).length = 32 by rw [bytesV_len, part_len])
  have HLT := Lib.hid (And.intro RL.out.lt RG.out.lt)
  have hfr := hm.frame
  simp only [List.take_succ_cons, List.take_zero, List.filterMap_cons, List.filterMap_nil, List.foldl_cons, List.foldl_nil, f0, f1, f2, f3, f6, f7'] at hfr
  generalize a.eval (.tmp 12) = e12 at hfr
  generalize a.eval (.tmp 13) = e13 at hfr
  have HFR := Lib.hid hfr
  refine wpList_store_row _ rfl rfl _ _ _ rfl g5 24 (noughts8 32) (bytesV (part p q (i + 1))) f7' f6 R57.out (by rw [HL32.out]; rfl) (bytesV_one _) (by rw [HL32.out]; kernel_rfl) ?_
  intro w8 hr8 hg8
  have hgW8 : W.grownBy w8 none := grown_own HGW7.out hg8 HG5.out
  have hcl : w8.cell? ⟨gl, 0, none⟩ = some ul := (RL.out.grown0 hgW8).cell (j := 0) rfl
  have hfl : w8.frozen? ⟨gl, 0, none⟩ = false := (RL.out.grown0 hgW8).frozen 0
  have hsl := slice_arr32 g5
  have HGW8 := Lib.hid hgW8
  have hne5 : g5 ≠ gl := by have := HG5.out; have := HLT.out; omega
  have hneG : G ≠ gl := by have := HS.out.2.2.2.1; omega
  have R9 := Lib.hid (hr8.other (i := 0) hne5 (.slice (some ⟨g5, 0, none⟩) 32 32))
  have RG9 := Lib.hid ((RG.out.grown0 hgW8).other (i := 0) hneG (.slice (some ⟨g5, 0, none⟩) 32 32))
  have RL9 := Lib.hid ((RL.out.grown0 hgW8).set 0 (.slice (some ⟨g5, 0, none⟩) 32 32))
  clear hr8 hg8 hgW8 hfr hall hm f0 f1 f2 f3 f6 f7 f7' hg5 r5 hne5 hneG
  have hfr := HFR.out
  clear HFR
  unfold wpList
  rw [hfr]
  clear hfr
  go_simp
  go_wp2_with (first
    | refine wpList_load_row _ rfl _ _ rfl g5 24 (bytesV (part p q (i + 1))) _ rfl R9.out Tryd.underlying24 rfl (by rw [HL32.out]; kernel_rfl) ?_
    | (refine wpList_store_row _ rfl rfl _ _ _ rfl G 24 _ (bytesV (part p q (i + 1))) rfl rfl RG9.out (by rw [HL32.out]; rfl) (bytesV_one _) (by rw [HL32.out]; kernel_rfl) ?_; intro w9 hr9 hg9))
  refine bodyPost_ret (v := .agg (bytesV (part p q (i + 1))).toArray) ?_ rfl ?_
  · exact results_row Tryd.results32 G 24 _ _ rfl hr9 Tryd.underlying24 rfl (by rw [HL32.out]; kernel_rfl)
  obtain ⟨ap1, ap2, ap3, ap4, ap5, ap6, ap7⟩ := HAP.out
  obtain ⟨hg0, hgW, hgcG, hglG, nel, neq⟩ := HS.out
  have hGs := HG.out
  have hlt := HLT.out
  have h5 := HG5.out
  have hgl9 := grown_set w8 gl 0 (.slice (some ⟨g5, 0, none⟩) 32 32)
  have rl9 : Row w9 gl 22 [.slice (some ⟨g5, 0, none⟩) 32 32] := RL9.out.grown hg9 (by simp; omega)
  have r59 : Row w9 g5 24 (bytesV (part p q (i + 1))) := R9.out.grown hg9 (by simp; omega)
  have hother : ∀ b, b < W.heap.size → b ≠ gl → b ≠ G → w9.heap[b]? = W.heap[b]? := fun b hb h1 h2 => by
    have e1 := HGW8.out.block b hb (by simp)
    have hb8 : b < w8.heap.size := Nat.lt_of_lt_of_le hb HGW8.out.size
    have e2 := hgl9.block b hb8 (by simpa using h1)
    have e3 := hg9.block b (Nat.lt_of_lt_of_le hb8 hgl9.size) (by simpa using h2)
    exact e3.trans (e2.trans e1)
  have hsz : W.heap.size ≤ w9.heap.size := Nat.le_trans HGW8.out.size (Nat.le_trans hgl9.size hg9.size)
  refine ⟨rfl, ⟨?_, ?_, ⟨_, rl9, r59.rds 32 32 HL32.out (by decide) (by decide), fun _ => ⟨?_, ?_⟩⟩, ⟨uq, ?_, ?_, neq⟩, HAP.out⟩, ⟨?_, ?_, ?_, ?_, ?_⟩, ?_⟩
  · exact (hother gc RC.out.lt ap2 (by omega)).trans RC.out
  · exact (hother gu RU.out.lt ap4 (by have := HUP.out.1; omega)).trans RU.out
  · intro e
    simp [Value.ownBlock] at e
    omega
  · intro e
    simp [Value.ownBlock] at e
    omega
  · exact (hother gp RQ.out.lt (Ne.symm ap5) (by have := HUP.out.2; omega)).trans RQ.out
  · exact RDQ.out.keptNe fun hn b hb hlt' => hother b hlt' (fun e => (neq hn).2 (by rw [hb, e])) (by have := HLOW.out hn b hb; omega)
  · exact hg9.os.trans (hgl9.os.trans (HGW8.out.os.trans (hgW.os.trans hg0.os)))
  · exact hg9.tape.trans (hgl9.tape.trans (HGW8.out.tape.trans (hgW.tape.trans hg0.tape)))
  · exact hg9.output.trans (hgl9.output.trans (HGW8.out.output.trans (hgW.output.trans hg0.output)))
  · exact Nat.le_trans hg0.size (Nat.le_trans hgW.size hsz)
  · intro k hk hnm
    simp only [List.mem_cons, List.not_mem_nil, or_false, not_or] at hnm
    have hk0 := Nat.lt_of_lt_of_le hk hg0.size
    exact (hother k (Nat.lt_of_lt_of_le hk0 hgW.size) hnm.2 (by omega)).trans ((hgW.block k hk0 (by simpa using hnm.1)).trans (hg0.block k hk (by simp)))
  · intro u hu b hb
    have e := rl9.symm.trans hu
    simp only [Option.some.injEq, Obj.cells.injEq, and_true] at e
    have e2 : u = .slice (some ⟨g5, 0, none⟩) 32 32 := by simpa using e.symm
    rw [e2] at hb
    simp [Value.ownBlock] at hb
    have := hg0.size
    have := hgW.size
    omega
end Go.Proofs.YtmhcfbfdbminnaaDoor
