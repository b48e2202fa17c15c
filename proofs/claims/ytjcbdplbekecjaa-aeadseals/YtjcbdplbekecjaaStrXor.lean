/-
  stream.Xor over this program: bytes, each xored with that of the blocks.
-/
import Derived.Test.YtjcbdplbekecjaaStrIter
import Derived.Test.YtjcbdplbekecjaaCopyRd
namespace Go.Proofs.Ytjcbdplbekecjaa
open Go.RowKit
attribute [local go_sem] Oper.semAt_some

/-- The first o bytes are xored. -/
def part (key : List UInt8) (n : W32) (nonce : List UInt8) (b : List UInt8) (o : Nat) : List UInt8 := (List.range b.length).map fun i => if i < o then b.getD i 0 ^^^ ks key n nonce i else b.getD i 0
section
variable (key : List UInt8) (n : W32) (nonce : List UInt8) (b : List UInt8)
theorem part_len (o : Nat) : (part key n nonce b o).length = b.length := by simp [part]
theorem part_at (o i : Nat) (h : i < b.length) : (part key n nonce b o)[i]? = some (if i < o then b.getD i 0 ^^^ ks key n nonce i else b.getD i 0) := by simp [part, h]
theorem part_getD (o i : Nat) (h : i < b.length) : (part key n nonce b o).getD i 0 = if i < o then b.getD i 0 ^^^ ks key n nonce i else b.getD i 0 := by
  rw [List.getD_eq_getElem?_getD, part_at key n nonce b o i h]
  rfl
theorem part_zero : part key n nonce b 0 = b := by
  apply List.ext_getElem?
  intro i
  by_cases h : i < b.length
  · rw [part_at key n nonce b 0 i h, if_neg (by omega)]
    simp [List.getElem?_eq_getElem h]
  · rw [List.getElem?_eq_none (by rw [part_len]; omega), List.getElem?_eq_none (by omega)]
theorem part_all (o : Nat) (h : b.length ≤ o) : part key n nonce b o = xs key n nonce b := by
  apply List.ext_getElem?
  intro i
  by_cases hi : i < b.length
  · rw [part_at key n nonce b o i hi, if_pos (by omega), xs_at _ _ _ _ _ hi]
  · rw [List.getElem?_eq_none (by rw [part_len]; omega), List.getElem?_eq_none (by rw [xs_len]; omega)]
theorem part_mix (k c : Nat) (hc : c ≤ 64) : mix (part key n nonce b (64 * k)) (64 * k) c (blok key (n + BitVec.ofNat 32 k) nonce) = part key n nonce b (64 * k + c) := by
  apply List.ext_getElem?
  intro i
  by_cases hi : i < b.length
  · rw [mix_at _ _ _ _ _ (by rw [part_len]; exact hi), part_at key n nonce b _ i hi, part_getD key n nonce b _ i hi]
    by_cases h1 : 64 * k ≤ i ∧ i < 64 * k + c
    · rw [if_pos h1, if_neg (by omega), if_pos (by omega)]
      have : ks key n nonce i = (blok key (n + BitVec.ofNat 32 k) nonce).getD (i - 64 * k) 0 := by
        have e : i = 64 * k + (i - 64 * k) := by omega
        conv => lhs; rw [e]
        rw [ks_add, ks_blok _ _ _ _ (by omega)]
      rw [this]
    · rw [if_neg h1]
      by_cases h2 : i < 64 * k
      · rw [if_pos h2, if_pos (by omega)]
      · rw [if_neg h2, if_neg (by omega)]
  · rw [List.getElem?_eq_none (by rw [mix_len, part_len]; omega), List.getElem?_eq_none (by rw [part_len]; omega)]
end

/-- What Xor answers: a row of the call's own. -/
def XOut (l : List UInt8) (w : World) (e : Ending) (w' : World) : Prop :=
  ∃ g, e = .returned (.slice (some ⟨g, 0, none⟩) l.length l.length) ∧ Row w' g 5 (bytesV l) ∧ w.grownBy w' none ∧ w.heap.size ≤ g

section
variable {o : Oper} {a : Act} {w : World}
theorem ex_loadS {x : Operand} {g : Nat} {v : Value} (h : o.op = .load 24 x) (hx : a.eval x = .pointer (some ⟨g, 0, none⟩)) (hr : Row w g 24 [v]) : (execOp a.eval o).run Try.prog w = .ok (.value v) w := by
  have hc := hr.cell (j := 0) rfl
  simp only [execOp, h, hx]
  simp [go_sem, hc]
end
theorem Row.own {B : Nat} {W W' : World} {g : Nat} {t : TypeId} {cs : List Value} {row : Option Nat} (h : Row W g t cs) (hg : W.grownBy W' row) (hr : ∀ r, row = some r → B ≤ r ∧ ∃ o : Obj, W.heap[r]? = some o ∧ o.isCells = false) : Row W' g t cs :=
  h.grown hg (fun e => by
    obtain ⟨_, o, ho, hc⟩ := hr g e.symm
    rw [show W.heap[g]? = _ from h] at ho
    cases ho
    cases hc)
theorem Row.grownX {S : List Nat} {W W' : World} {g : Nat} {t : TypeId} {cs : List Value} (h : Row W g t cs) (hg : GrownX S W.drew W') (hn : g ∉ S) : Row W' g t cs := (hg.block g h.lt hn).trans h
theorem GrownX.one {g : Nat} {W W' : World} (h : GrownX [g] W.drew W') : W.grownBy W' (some g) := ⟨h.os, h.tape, h.output, h.size, fun k hk hne => h.block k hk (by simpa using fun e => hne (by rw [e]))⟩
theorem Clo.own {B gn gk gc : Nat} {key : List UInt8} {n : W32} {nonce : List UInt8} {W W' : World} {row : Option Nat} (h : Clo gn gk gc key n nonce W) (hg : W.grownBy W' row) (hr : ∀ r, row = some r → B ≤ r ∧ ∃ o : Obj, W.heap[r]? = some o ∧ o.isCells = false) : Clo gn gk gc key n nonce W' :=
  ⟨h.num.own hg hr, h.key.own hg hr, h.nonce.own hg hr⟩
theorem Clo.grown {gn gk gc g : Nat} {key : List UInt8} {n : W32} {nonce : List UInt8} {w w' : World} (h : Clo gn gk gc key n nonce w) (hg : w.grownBy w' (some g)) (h1 : gn ≠ g) (h2 : gk ≠ g) (h3 : gc ≠ g) : Clo gn gk gc key n nonce w' :=
  ⟨h.num.grown hg (by simpa using h1), h.key.grown hg (by simpa using h2), h.nonce.grown hg (by simpa using h3)⟩

/-- So many blocks are xored. -/
structure Rest (w : World) (g gr gn gk gc m : Nat) (key : List UInt8) (n : W32) (nonce b : List UInt8) (k : Nat) (W : World) : Prop where
  lt : k = 0 ∨ 64 * k < m
  clo : Clo gn gk gc key n nonce W
  row : Row W g 5 (bytesV (part key n nonce b (64 * k)))
  cell : Row W gr 24 [.slice (some ⟨g, 64 * k, none⟩) (m - 64 * k) (m - 64 * k)]
  grow : w.grownBy W none
/-- All are. -/
def Done (w : World) (g : Nat) (l : List UInt8) (c : Code) (W : World) : Prop := c = .exit 0 ∧ Row W g 5 (bytesV l) ∧ w.grownBy W none
/-- A slice without all it has, and without the first 64. -/
theorem slice_end (ad : Addr) (r : Nat) (w : World) : (Instr.sliceAt 24 (.slice (some ad) r r) (some (.int .i64 (r : Int))) none none).run Try.prog w = .ok (.slice (some ad) 0 0) w := by
  simp [Instr.sliceAt, go_sem, Instr.sliceBounds]
theorem slice_64 (g o r : Nat) (h : 64 < r) (w : World) : (Instr.sliceAt 24 (.slice (some ⟨g, o, none⟩) r r) (some (.int .i64 64)) none none).run Try.prog w = .ok (.slice (some ⟨g, o + 64, none⟩) (r - 64) (r - 64)) w := by
  have h1 : (64 : Int) ≤ (r : Int) := by omega
  have h2 : ¬ r = 64 := by omega
  simp [Instr.sliceAt, go_sem, Instr.sliceBounds, Addr.add, h1, h2]
theorem grown_ownFrom {w W W' : World} {B : Nat} {row : Option Nat} (h : w.grownBy W none) (hB : w.heap.size ≤ B) (hg : W.grownBy W' row) (hr : ∀ r, row = some r → B ≤ r ∧ ∃ o : Obj, W.heap[r]? = some o ∧ o.isCells = false) : w.grownBy W' none :=
  grown_new h hg (fun b e => Nat.le_trans hB (hr b e).1)

set_option maxHeartbeats 4000000 in
set_option maxRecDepth 100000 in
theorem xor_any (key : List UInt8) (hk : key.length = 32) (n : W32) (nonce : List UInt8) (hn : nonce.length = 12) (A : Option Addr) (m c : Nat) (b : List UInt8) (w : World) (hr : Rd w (.slice A m c) (bytesV b)) (hm : m ≤ 100000000000) :
    Calls Try.prog 13 #[.agg (bytesV key).toArray, .int .u32 (n.toNat : Int), .agg (bytesV nonce).toArray, .slice A m c] w (XOut (xs key n nonce b) w) := by
  have hbl : b.length = m := by have := hr.len.1; rwa [bytesV_len] at this
  have HBL := Lib.hid hbl
  have HK := Lib.hid hk
  have HN := Lib.hid hn
  have HKL := Lib.hid (show (bytesV key).length = 32 by rw [bytesV_len, hk])
  have HNL := Lib.hid (show (bytesV nonce).length = 12 by rw [bytesV_len, hn])
  generalize hG : w.heap.size = G
  have HG := Lib.hid hG
  obtain ⟨W0, hW0⟩ : ∃ W, (w.alloc (.cells (bytesV key).toArray 22)).alloc (.cells (bytesV nonce).toArray 23) = W := ⟨_, rfl⟩
  have R0 := Lib.hid (show Row W0 G 22 (bytesV key) by rw [← hW0]; exact (Row.newAt w _ (bytesV key) hG).alloc _)
  have R1 := Lib.hid (show Row W0 (G + 1) 23 (bytesV nonce) by rw [← hW0]; exact Row.newAt _ _ (bytesV nonce) (by simp [hG]))
  have HGR := Lib.hid (show w.grownBy W0 none by rw [← hW0]; exact grown_alloc (grown_alloc (grown_refl _ _) _) _)
  have HRD := Lib.hid (hr.grown0 HGR.out)
  have HB := Lib.hid (fun w => blocks_any key n nonce w)
  clear hr hbl hk hn
  refine callsIn_wide.1 (callsIn_of_wp_marks (n := 0) Try.func13 rfl trivial (wpIn_wide.2 ?_) rfl)
  simp only [Try.ntmps13, List.size_toArray, List.length_cons, List.length_nil, Nat.reduceAdd, Nat.reduceSub, Array.replicate_succ, Array.replicate_zero, List.push_toArray, List.append_toArray, List.nil_append, List.cons_append]
  go_wp2_with (refine wpList_make_bytes _ rfl _ _ rfl m rfl rfl (by omega) ?_; intro w1 hr1 hg1)
  obtain ⟨w2, hrun, hr2, hg2⟩ := run_copy_all w1 3 W0.heap.size m m _ b (HRD.out.grown0 hg1) (bytesV (List.replicate m 0)) 5 hr1 HBL.out (by simp [bytesV_len])
  rw [hrun]
  have hlt0 := R0.out.lt
  have hlt1 := R1.out.lt
  have hlt2 := HGR.out.size
  have r0 : Row w2 G 22 (bytesV key) := (R0.out.grown0 hg1).grown hg2 (by simp; omega)
  have r1 : Row w2 (G + 1) 23 (bytesV nonce) := (R1.out.grown0 hg1).grown hg2 (by simp; omega)
  have hgr : w.grownBy w2 none := grown_own (HGR.out.trans hg1) hg2 hlt2
  have HGg := Lib.hid (show w.heap.size ≤ W0.heap.size from hlt2)
  clear hrun hr1 hg1 hg2 R0 R1 HGR HRD hW0 hlt0 hlt1 hlt2
  generalize W0.heap.size = g at *
  have hgg := hr2.lt
  have HLT := Lib.hid hgg
  obtain ⟨gr, hgr0⟩ : ∃ x, w2.heap.size = x := ⟨_, rfl⟩
  obtain ⟨w3, hw3⟩ : ∃ x, w2.alloc (.cells #[.slice (some ⟨g, 0, none⟩) m m] 24) = x := ⟨_, rfl⟩
  have RR := Lib.hid (show Row w3 gr 24 [.slice (some ⟨g, 0, none⟩) m m] by rw [← hw3]; exact Row.newAt w2 _ [.slice (some ⟨g, 0, none⟩) m m] hgr0)
  have R0 := Lib.hid (show Row w3 G 22 (bytesV key) by rw [← hw3]; exact r0.alloc _)
  have R1 := Lib.hid (show Row w3 (G + 1) 23 (bytesV nonce) by rw [← hw3]; exact r1.alloc _)
  have R2 := Lib.hid (show Row w3 g 5 (bytesV b) by rw [← hw3]; exact hr2.alloc _)
  have HGR := Lib.hid (show w.grownBy w3 none by rw [← hw3]; exact grown_alloc hgr _)
  have HNE := Lib.hid (show g < gr by omega)
  clear r0 r1 hr2 hgr hgg hG
  go_wp2_with (first
    | refine wpList_load_row _ rfl _ 22 rfl G 22 (bytesV key) _ rfl R0.out Try.underlying22 rfl (by rw [HKL.out]; kernel_rfl) ?_
    | refine wpList_load_row _ rfl _ 23 rfl (G + 1) 23 (bytesV nonce) _ rfl R1.out Try.underlying23 rfl (by rw [HNL.out]; kernel_rfl) ?_)
  refine (HB.out _).mono ?_
  rintro e w4 ⟨gn, gk, gc, rfl, hclo, hg4, hx1, hx2, hx3⟩
  have HCLO := Lib.hid hclo
  have R2' := Lib.hid (R2.out.grown0 hg4)
  have RR' := Lib.hid (RR.out.grown0 hg4)
  have HGR' := Lib.hid (HGR.out.trans hg4)
  have hrlt := RR.out.lt
  have HLO := Lib.hid (show (gr < gn ∧ gr < gk ∧ gr < gc) by omega)
  clear hrlt
  have HGS := Lib.hid (show gr < w4.heap.size from (RR.out.grown0 hg4).lt)
  clear hclo hg4 hx1 hx2 hx3 R2 RR HGR R0 R1 hw3 hgr0
  unfold iterV
  go_wp2_with fail
  refine wp_range_ever (gf := 36) (lb := #[.pointer (some ⟨gn, 0, none⟩), .pointer (some ⟨gk, 0, none⟩), .pointer (some ⟨gc, 0, none⟩)]) rfl (enters_at Try.func36 (by kernel_rfl) (by kernel_rfl))
    (iter_any key HK.out n nonce HN.out gn gk gc 2000000000 (by decide)) (fun _ => rfl)
    (Rest w g gr gn gk gc m key n nonce b) (Done w g (xs key n nonce b)) ?bound ?own ?ownx ?start
    (fun k a' W => ∃ gb, Rest w g gr gn gk gc m key n nonce b k W ∧ Row W gb 49 (bytesV (blok key (n + BitVec.ofNat 32 k) nonce)) ∧ gb ≠ g ∧ gb ≠ gr ∧
      a' = { tmps := #[.agg (bytesV key).toArray, .int .u32 (n.toNat : Int), .agg (bytesV nonce).toArray, .slice A m c, .pointer (some ⟨G, 0, none⟩), undef, .pointer (some ⟨G + 1, 0, none⟩), undef, .slice none 0 0, .slice (some ⟨g, 0, none⟩) m m, .pointer (some ⟨gr, 0, none⟩), .pointer (some ⟨gb, 0, none⟩), .slice A m c, .int .i64 (m : Int), .slice (some ⟨g, 0, none⟩) m m, .slice (some ⟨g, 0, none⟩) m m, .slice A m c, .int .i64 (m : Int), .slice (some ⟨g, 0, none⟩) m m, .agg (bytesV key).toArray, .int .u32 (n.toNat : Int), .agg (bytesV nonce).toArray,
        .func (.func 36) #[] #[.pointer (some ⟨gn, 0, none⟩), .pointer (some ⟨gk, 0, none⟩), .pointer (some ⟨gc, 0, none⟩)], .agg (bytesV (blok key (n + BitVec.ofNat 32 k) nonce)).toArray, undef, undef, undef, undef, undef, undef, undef, undef, undef], defers := [] }) ?ownA ?assign ?body ?stop
  case bound =>
    intro k W h
    refine ⟨?_, h.clo⟩
    have := h.lt
    omega
  case own =>
    intro k W W' row h hg hr
    exact ⟨h.lt, h.clo.own hg hr, h.row.own hg hr, h.cell.own hg hr, grown_ownFrom h.grow HGR'.out.size hg hr⟩
  case ownx =>
    intro c W W' row h hg hr
    exact ⟨h.1, h.2.1.own hg hr, grown_ownFrom h.2.2 HGR'.out.size hg hr⟩
  case start => exact ⟨.inl rfl, HCLO.out, by rw [Nat.mul_zero, part_zero]; exact R2'.out, RR'.out, HGR'.out⟩
  case ownA =>
    rintro a' k W W' row ⟨gb, h, hb, h1, h2, rfl⟩ hg hr
    exact ⟨gb, ⟨h.lt, h.clo.own hg hr, h.row.own hg hr, h.cell.own hg hr, grown_ownFrom h.grow HGR'.out.size hg hr⟩, hb.own hg hr, h1, h2, rfl⟩
  case assign =>
    intro l k W K hI hK
    have HI := Lib.hid hI
    have HK := Lib.hid hK
    have HBL' := Lib.hid (show (bytesV (blok key (n + BitVec.ofNat 32 k) nonce)).length = 64 by rw [bytesV_len, blok_len])
    have HO := Lib.hid (fun x hx => bytesV_one (blok key (n + BitVec.ofNat 32 k) nonce) x hx)
    clear hI hK
    generalize bytesV (blok key (n + BitVec.ofNat 32 k) nonce) = ys at *
    refine region_round (by kernel_rfl) (fun _ _ h => h) ?_
    go_simp
    go_wp2_with (refine wpList_store_row _ rfl rfl _ _ 49 rfl W.heap.size 49 (noughts8 64) ys rfl rfl (Row.new W 49 (noughts8 64)) (by rw [HBL'.out]; rfl) HO.out (by rw [HBL'.out]; kernel_rfl) ?_; intro w5 hr5 hg5)
    have hgw : W.grownBy w5 none := grown_own (grown_alloc (grown_refl _ _) _) hg5 (Nat.le_refl _)
    have hi := HI.out
    have e1 := hi.row.lt
    have e2 := hi.cell.lt
    exact HK.out _ _ (KeepsFrom.of_grownBy hgw (fun j e => by cases e)) ⟨W.heap.size, ⟨hi.lt, hi.clo.grown0 hgw, hi.row.grown0 hgw, hi.cell.grown0 hgw, hi.grow.trans hgw⟩, hr5, by omega, by omega, rfl⟩
  case body =>
    rintro l k a' W ⟨gb, hR, hb, h1, h2, rfl⟩
    obtain ⟨r, hr⟩ : ∃ r, r = m - 64 * k := ⟨_, rfl⟩
    have hcell := hR.cell
    rw [← hr] at hcell
    have HR := Lib.hid hR
    have HB' := Lib.hid hb
    have HCELL := Lib.hid hcell
    have HNEQ := Lib.hid (And.intro h1 h2)
    have HRr := Lib.hid hr
    have HBL' := Lib.hid (show (bytesV (blok key (n + BitVec.ofNat 32 k) nonce)).length = 64 by rw [bytesV_len, blok_len])
    clear hcell hR hb h1 h2 hr
    refine wpIn_block ?_
    refine wpIn_seq_k ?_
    intro K hK
    have HKK := Lib.hid hK
    clear hK
    refine region_round_walk 4 [(3, g)] (dis_one 3 g) (by kernel_rfl) (by kernel_rfl) (by kernel_rfl) (by kernel_rfl) (fun _ _ h => h) ?_
    simp only [List.take_succ_cons, List.take_zero, List.drop_succ_cons, List.drop_zero]
    refine Walk.val (G := Is (.slice (some ⟨g, 64 * k, none⟩) r r)) (stays_is _ _) rfl rfl (fun a w hm hd => ⟨wanted_plain rfl, _, ex_loadS rfl (by rw [hm.outer 10 (by kernel_rfl)]; rfl) (HCELL.out.grownX hm.grow (by have := HNE.out; simp; omega)), rfl⟩) ?_
    refine Walk.val (G := Is (.slice (some ⟨g, 64 * k, none⟩) r r)) (stays_is _ _) rfl rfl (fun a w hm hd => ⟨wanted_plain rfl, _, ex_loadS rfl (by rw [hm.outer 10 (by kernel_rfl)]; rfl) (HCELL.out.grownX hm.grow (by have := HNE.out; simp; omega)), rfl⟩) ?_
    refine Walk.val (G := Is (.agg (bytesV (blok key (n + BitVec.ofNat 32 k) nonce)).toArray)) (stays_is _ _) rfl rfl (fun a w hm hd => ⟨wanted_plain rfl, _, ex_load_row rfl gb 49 _ _ (by rw [hm.outer 11 (by kernel_rfl)]; rfl) (HB'.out.grownX hm.grow (by simpa using HNEQ.out.1)) Try.underlying49 rfl (by rw [HBL'.out]; kernel_rfl), rfl⟩) ?_
    refine Walk.call (G := fun v U => v = .int .i64 ((min r 64 : Nat) : Int) ∧ Row U g 5 (bytesV (part key n nonce b (64 * k + min r 64)))) (stays_own (dis_one 3 g) rfl (fun v w w' h hg => ⟨h.1, h.2.grown0 hg⟩) (fun g' hg' hne => absurd (by simpa using hg') hne)) rfl 23 rfl (fun a w hm ha hd => ⟨wanted_plain rfl, _, ex_call2 Try.func23 (by kernel_rfl) (by kernel_rfl) rfl, by
      have h25 : a.eval (.tmp 25) = _ := hd.at_ 1 rfl rfl rfl rfl
      have h26 : a.eval (.tmp 26) = _ := hd.at_ 2 rfl rfl rfl rfl
      rw [h25, h26]
      have hrow : Row w g 5 (bytesV (part key n nonce b (64 * k))) := (ha g rfl HR.out.row.lt).trans HR.out.row
      have hlen := HBL.out
      refine (xorBlock_any (part key n nonce b (64 * k)) (blok key (n + BitVec.ofNat 32 k) nonce) (blok_len _ _ _) g (64 * k) r r 5 w hrow (by rw [part_len, hlen, HRr.out]; have := HR.out.lt; omega) (by have := HRr.out; omega)).mono ?_
      rintro e w' ⟨rfl, hg', hr'⟩
      rw [part_mix key n nonce b k (min r 64) (by omega)] at hr'
      exact ⟨_, rfl, hg', rfl, hr'⟩⟩) ?_
    intro a9 w7 hm7 hall
    have v24 : a9.eval (.tmp 24) = .slice (some ⟨g, 64 * k, none⟩) r r := hall 0 _ _ rfl rfl
    have v25 : a9.eval (.tmp 25) = .slice (some ⟨g, 64 * k, none⟩) r r := hall 1 _ _ rfl rfl
    have v26 : a9.eval (.tmp 26) = .agg (bytesV (blok key (n + BitVec.ofNat 32 k) nonce)).toArray := hall 2 _ _ rfl rfl
    have v27 : a9.eval (.tmp 27) = .int .i64 ((min r 64 : Nat) : Int) ∧ Row w7 g 5 (bytesV (part key n nonce b (64 * k + min r 64))) := hall 3 _ _ rfl rfl
    have hfr := hm7.frame
    simp only [List.take_succ_cons, List.take_zero, List.filterMap_cons, List.filterMap_nil, List.foldl_cons, List.foldl_nil] at hfr
    rw [v24, v25, v26, v27.1] at hfr
    have hg7 : W.grownBy w7 (some g) := GrownX.one hm7.grow
    have hcell7 : Row w7 gr 24 [.slice (some ⟨g, 64 * k, none⟩) r r] := HCELL.out.grown hg7 (by have := HNE.out; simp; omega)
    have HROW := Lib.hid v27.2
    have HG7 := Lib.hid hg7
    have HC7 := Lib.hid hcell7
    have hc7 := hcell7.cell (j := 0) rfl
    have hf7 := hcell7.frozen 0
    have HFR := Lib.hid hfr
    clear v24 v25 v26 v27 hm7 hall hg7 hcell7 hfr
    by_cases hr64 : r ≤ 64
    · have hmin : min r 64 = r := by omega
      rw [hmin] at HROW HFR
      have hsl := slice_end ⟨g, 64 * k, none⟩ r w7
      rw [HFR.out]
      clear HFR
      simp only [Act.put, List.setIfInBounds_toArray, List.set_cons_succ, List.set_cons_zero]
      have HR64 := Lib.hid hr64
      clear hr64 hmin
      go_wp2
      refine HKK.out _ _ ?_
      have hc8 : (w7.setCell ⟨gr, 0, none⟩ (.slice (some ⟨g, 64 * k, none⟩) 0 0)).cell? ⟨gr, 0, none⟩ = some (.slice (some ⟨g, 64 * k, none⟩) 0 0) := (HC7.out.set 0 _).cell (j := 0) rfl
      have HROW8 := Lib.hid (HROW.out.other (i := 0) (by have := HNE.out; omega) (.slice (some ⟨g, 64 * k, none⟩) 0 0) : Row (w7.setCell ⟨gr, 0, none⟩ (.slice (some ⟨g, 64 * k, none⟩) 0 0)) g 5 _)
      have HG8 := Lib.hid (grown_set w7 gr 0 (.slice (some ⟨g, 64 * k, none⟩) 0 0))
      clear hc7 hf7 hsl
      generalize w7.setCell ⟨gr, 0, none⟩ (.slice (some ⟨g, 64 * k, none⟩) 0 0) = w8 at *
      gi_wp2
      have hg := HGg.out
      have hne := HNE.out
      have hgs := HGS.out
      refine ⟨(KeepsFrom.of_grownBy HG7.out (fun j e => by cases e; omega)).trans (KeepsFrom.of_grownBy HG8.out (fun j e => by cases e; omega)), rfl, ?_, grown_own (grown_own HR.out.grow HG7.out hg) HG8.out (by omega)⟩
      have hbl := HBL.out
      have hrr := HRr.out
      rw [← part_all key n nonce b (64 * k + r) (by omega)]
      exact HROW8.out
    · have hmin : min r 64 = 64 := by omega
      rw [hmin] at HROW HFR
      have hsl := slice_64 g (64 * k) r (by omega) w7
      rw [HFR.out]
      clear HFR
      simp only [Act.put, List.setIfInBounds_toArray, List.set_cons_succ, List.set_cons_zero]
      have HR64 := Lib.hid hr64
      obtain ⟨d, hd⟩ : ∃ d, d = r - 64 := ⟨_, rfl⟩
      rw [← hd] at hsl
      have HD := Lib.hid hd
      have hd0 : ((d : Int) == 0) = false := by simp; omega
      clear hr64 hmin hd
      go_wp2
      refine HKK.out _ _ ?_
      have hc8 : (w7.setCell ⟨gr, 0, none⟩ (.slice (some ⟨g, 64 * k + 64, none⟩) d d)).cell? ⟨gr, 0, none⟩ = some (.slice (some ⟨g, 64 * k + 64, none⟩) d d) := (HC7.out.set 0 _).cell (j := 0) rfl
      have HC8 := Lib.hid (HC7.out.set 0 (.slice (some ⟨g, 64 * k + 64, none⟩) d d))
      have HROW8 := Lib.hid (HROW.out.other (i := 0) (by have := HNE.out; omega) (.slice (some ⟨g, 64 * k + 64, none⟩) d d) : Row (w7.setCell ⟨gr, 0, none⟩ (.slice (some ⟨g, 64 * k + 64, none⟩) d d)) g 5 _)
      have HG8 := Lib.hid (grown_set w7 gr 0 (.slice (some ⟨g, 64 * k + 64, none⟩) d d))
      clear hc7 hf7 hsl
      generalize w7.setCell ⟨gr, 0, none⟩ (.slice (some ⟨g, 64 * k + 64, none⟩) d d) = w8 at *
      gi_wp2
      have hg := HGg.out
      have hne := HNE.out
      have hgs := HGS.out
      have hlo := HLO.out
      have hr := HRr.out
      have hdd := HD.out
      have h64 := HR64.out
      refine ⟨(KeepsFrom.of_grownBy HG7.out (fun j e => by cases e; omega)).trans (KeepsFrom.of_grownBy HG8.out (fun j e => by cases e; omega)), ⟨.inr (by omega), ?_, HROW8.out, ?_, grown_own (grown_own HR.out.grow HG7.out hg) HG8.out (by omega)⟩⟩
      · exact (HR.out.clo.grown HG7.out (by omega) (by omega) (by omega)).grown HG8.out (by omega) (by omega) (by omega)
      · rw [show m - 64 * (k + 1) = d by omega, show 64 * (k + 1) = 64 * k + 64 by omega]
        exact HC8.out
  case stop =>
    rintro D cc W hD ⟨rfl, hrow, hgrow⟩ hdef
    have HROW := Lib.hid hrow
    have HGROW := Lib.hid hgrow
    have HDEF := Lib.hid hdef
    have HDD := Lib.hid hD
    clear hrow hgrow hdef hD
    go_wp2
    refine ⟨by simp, .inl ⟨_, _, rfl, run_takeDeferred HDEF.out, ?_⟩⟩
    have hr : ∀ r, some D = some r → w4.heap.size ≤ r ∧ ∃ o : Obj, W.heap[r]? = some o ∧ o.isCells = false := fun r e => by cases e; exact ⟨HDD.out, _, HDEF.out, rfl⟩
    refine ⟨_, results_tmp rfl _ _ _, g, ?_, HROW.out.own (grownBy_putObj' W D _) hr, grown_ownFrom HGROW.out HGR'.out.size (grownBy_putObj' W D _) hr, HGg.out⟩
    rw [xs_len, HBL.out]
    rfl
end Go.Proofs.Ytjcbdplbekecjaa
