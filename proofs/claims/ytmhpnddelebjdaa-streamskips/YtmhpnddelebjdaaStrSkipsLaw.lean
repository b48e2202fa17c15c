/-
  The law StreamSkips, walked.
-/
import Derived.Test.YtmhpnddelebjdaaSkipOps
import Derived.Test.YtmhpnddelebjdaaStrBlocksLaw
namespace Go.Proofs.Ytmhpnddelebjdaa
open Go.RowKit
attribute [local go_sem] Oper.semAt_some

section
variable {o : Oper} {a : Act} {w : World}
theorem ex_loadBx {x : Operand} {g : Nat} {v : Value} (h : o.op = .load 42 x) (hx : a.eval x = .pointer (some ⟨g, 0, none⟩)) (hr : Row w g 42 [v]) : (execOp a.eval o).run Try.prog w = .ok (.value v) w := by
  have hc := hr.cell (j := 0) rfl
  simp only [execOp, h, hx]
  simp [go_sem, hc]
theorem ex_lenB {x : Operand} {A : Option Addr} {m c : Nat} (h : o.op = .call { callee := .builtin .len, args := #[x], argTypes := #[42] }) (hx : Is (.slice A m c) (a.eval x) w) : (execOp a.eval o).run Try.prog w = .ok (.value (.int .i64 (m : Int))) w := by
  have hx' : a.eval x = .slice A m c := hx
  simp only [execOp, h, resolve, invoke, builtin, List.map_toArray, List.map_cons, List.map_nil, hx']
  simp [go_sem]
theorem ex_neS {x : Operand} {e : Int} (h : o.op = .binOp .neq 3 x (.const (.int .i64 e)) 3) (hx : Is (.int .i64 e) (a.eval x) w) : (execOp a.eval o).run Try.prog w = .ok (.value (.bool false)) w := by
  have hx' : a.eval x = .int .i64 e := hx
  have hc : a.eval (.const (.int .i64 e)) = .int .i64 e := rfl
  simp only [execOp, h, hx', hc]
  simp [go_sem]
theorem ex_addS {x : Operand} {k r : Nat} (h : o.op = .binOp .add 3 x (.const (.int .i64 1)) 3) (hx : Is (.int .i64 (k : Int)) (a.eval x) w) (hr : k + 1 = r) (hb : k ≤ 1000) : (execOp a.eval o).run Try.prog w = .ok (.value (.int .i64 (r : Int))) w := by
  have hx' : a.eval x = .int .i64 (k : Int) := hx
  have hc : a.eval (.const (.int .i64 1)) = .int .i64 1 := rfl
  have hw : IntKind.i64.wrap ((k : Int) + 1) = (r : Int) := by rw [IntKind.wrap_i64]; omega
  simp only [execOp, h, hx', hc]
  simp [go_sem, hw]
theorem ex_indexS {x y : Operand} {g m c i : Nat} (h : o.op = .indexAddr 42 x y) (hx : Is (.slice (some ⟨g, 0, none⟩) m c) (a.eval x) w) (hy : Is (.int .i64 (i : Int)) (a.eval y) w) (hi : i < m) : (execOp a.eval o).run Try.prog w = .ok (.value (.pointer (some ⟨g, 64 * i, none⟩))) w := by
  have hx' : a.eval x = .slice (some ⟨g, 0, none⟩) m c := hx
  have hy' : a.eval y = .int .i64 (i : Int) := hy
  obtain ⟨inf, z, h1, _, _, h2, _⟩ := info64
  have hm : i * 64 = 64 * i := by omega
  simp only [execOp, h, hx', hy']
  simp [go_sem, hi, sizeOf, typeInfo, h1, h2, Addr.add, hm]
  omega
theorem ex_pickF {c x y : Operand} {v : Value} (h : o.op = .pick c x y) (hc : Is (.bool false) (a.eval c) w) (hx : Is v (a.eval y) w) : (execOp a.eval o).run Try.prog w = .ok (.value v) w := by
  have hc' : a.eval c = .bool false := hc
  have hx' : a.eval y = v := hx
  simp [execOp, h, hc', hx', asBool]
end
/-- A result that lies in a slot. -/
theorem results_slot {tmps : Array Value} {w : World} {f : Func} {d : Nat} {v : Value} (hres : f.results = #[.tmp d]) (hv : tmps.getD d undef = v) : (results f tmps).run Try.prog w = .ok v w := by
  simp only [results, hres]
  rw [Array.getD_eq_getD_getElem?] at hv
  simp [hv, go_sem]
theorem num_shift (n : W32) (i : Nat) : n + BitVec.ofNat 32 1 + BitVec.ofNat 32 i = n + BitVec.ofNat 32 (i + 1) := by
  apply BitVec.eq_of_toNat_eq
  rw [BitVec.toNat_add, BitVec.toNat_add, BitVec.toNat_add, BitVec.toNat_ofNat, BitVec.toNat_ofNat, BitVec.toNat_ofNat]
  omega
theorem blk_at {key : List UInt8} {n : W32} {nonce : List UInt8} {cur : List Value} {M i : Nat} {ys : List UInt8} (h : cur.take (M * 64) = bytesV (catB key n nonce M)) (hi : i < M) (hys : blok key (n + BitVec.ofNat 32 i) nonce = ys) (j : Nat) (u : Value) (hu : (bytesV ys)[j]? = some u) : cur[64 * i + j]? = some u := by
  obtain ⟨b, hb, rfl⟩ : ∃ b, ys[j]? = some b ∧ byteV b = u := by simpa [bytesV] using hu
  have h2 := catB_at key n nonce i M hi j b (by rw [hys]; exact hb)
  have h3 : (bytesV (catB key n nonce M))[64 * i + j]? = some (byteV b) := by simp [bytesV, h2]
  rw [← h, List.getElem?_take] at h3
  split at h3
  · exact h3
  · cases h3

/-- What Blocks answers, as a value. -/
def IsI (key : List UInt8) (m : W32) (nonce : List UInt8) (lo : Nat) (v : Value) (w : World) : Prop := ∃ gn gk gc, v = iterV gn gk gc ∧ Clo gn gk gc key m nonce w ∧ lo ≤ gn ∧ lo ≤ gk ∧ lo ≤ gc
theorem IsI.grown0 {key : List UInt8} {m : W32} {nonce : List UInt8} {lo : Nat} {v : Value} {w w' : World} : IsI key m nonce lo v w → w.grownBy w' none → IsI key m nonce lo v w' := fun ⟨gn, gk, gc, h1, h2, h3⟩ hg => ⟨gn, gk, gc, h1, h2.grown0 hg, h3⟩

/-- What lies there behind k rounds: nothing old is turned but the box, which holds a row of the loop's own. -/
structure SK (W0 : World) (gA : Nat) (cs : Nat → List Value) (k : Nat) (va : Value) (W : World) : Prop where
  kept : W0.grownBy W (some gA)
  box : Row W gA 42 [va]
  own : W.ownsRow W0.heap.size 31 64 va k (cs k)
theorem kept_new {W0 W W' : World} {gA : Nat} {row : Option Nat} (h : W0.grownBy W (some gA)) (hg : W.grownBy W' row) (hr : ∀ r, row = some r → W0.heap.size ≤ r ∨ r = gA) : W0.grownBy W' (some gA) :=
  ⟨hg.os.trans h.os, hg.tape.trans h.tape, hg.output.trans h.output, Nat.le_trans h.size hg.size, fun i hi hne =>
    (hg.block i (Nat.lt_of_lt_of_le hi h.size) (fun e => by
      rcases hr i e.symm with h1 | h1
      · omega
      · exact hne (by rw [h1]))).trans (h.block i hi hne)⟩
theorem SK.own' {W0 W W' : World} {gA k B : Nat} {cs : Nat → List Value} {va : Value} {row : Option Nat} (h : SK W0 gA cs k va W) (hB : W0.heap.size ≤ B) (hg : W.grownBy W' row) (hr : ∀ r, row = some r → B ≤ r ∧ ∃ o : Obj, W.heap[r]? = some o ∧ o.isCells = false) : SK W0 gA cs k va W' :=
  ⟨kept_new h.kept hg (fun r e => .inl (Nat.le_trans hB (hr r e).1)), h.box.own hg hr, own_from h.own hg hr⟩
theorem SK.grown0 {W0 W W' : World} {gA k : Nat} {cs : Nat → List Value} {va : Value} (h : SK W0 gA cs k va W) (hg : W.grownBy W' none) : SK W0 gA cs k va W' :=
  h.own' (Nat.le_refl _) hg (fun r e => by cases e)

set_option maxHeartbeats 8000000 in
theorem streamSkips_walk (key : List UInt8) (hk : key.length = 32) (n : W32) (nonce : List UInt8) (hn : nonce.length = 12) (w : World) :
    Calls Try.prog 8 #[.agg (bytesV key).toArray, .int .u32 (n.toNat : Int), .agg (bytesV nonce).toArray] w (Awake w) := by
  have HK := Lib.hid hk
  have HN := Lib.hid hn
  have HKL := Lib.hid (show (bytesV key).length = 32 by rw [bytesV_len, hk])
  have HNL := Lib.hid (show (bytesV nonce).length = 12 by rw [bytesV_len, hn])
  generalize hG : w.heap.size = G
  have HG := Lib.hid hG
  obtain ⟨W0, hW0⟩ : ∃ W, (((w.alloc (.cells (bytesV key).toArray 29)).alloc (.cells (bytesV nonce).toArray 30)).alloc (.cells #[.slice none 0 0] 42)).alloc (.cells #[.slice none 0 0] 42) = W := ⟨_, rfl⟩
  have R0 := Lib.hid (show Row W0 G 29 (bytesV key) by rw [← hW0]; exact (((Row.newAt w _ (bytesV key) hG).alloc _).alloc _).alloc _)
  have R1 := Lib.hid (show Row W0 (G + 1) 30 (bytesV nonce) by rw [← hW0]; exact ((Row.newAt _ _ (bytesV nonce) (by simp [hG])).alloc _).alloc _)
  have RA := Lib.hid (show Row W0 (G + 1 + 1) 42 [.slice none 0 0] by rw [← hW0]; exact (Row.newAt _ _ [.slice none 0 0] (by simp [hG])).alloc _)
  have RB := Lib.hid (show Row W0 (G + 1 + 1 + 1) 42 [.slice none 0 0] by rw [← hW0]; exact Row.newAt _ _ [.slice none 0 0] (by simp [hG]))
  have HGR := Lib.hid (show w.grownBy W0 none by rw [← hW0]; exact grown_alloc (grown_alloc (grown_alloc (grown_alloc (grown_refl _ _) _) _) _) _)
  obtain ⟨n1, hn1⟩ : ∃ y, n + BitVec.ofNat 32 1 = y := ⟨_, rfl⟩
  have HN1 := Lib.hid hn1
  clear hk hn hn1
  refine callsIn_wide.1 (callsIn_of_wp_marks (n := 0) Try.func8 rfl trivial (wpIn_wide.2 ?_) rfl)
  simp only [Try.ntmps8, List.size_toArray, List.length_cons, List.length_nil, Nat.reduceAdd, Nat.reduceSub, Array.replicate_succ, Array.replicate_zero, List.push_toArray, List.append_toArray, List.nil_append, List.cons_append]
  go_wp2
  clear hG hW0
  refine wp_region_walk3 11 [] dis_nil (by kernel_rfl) (by kernel_rfl) (by kernel_rfl) ?_
  simp only [List.take_succ_cons, List.take_zero, List.drop_succ_cons, List.drop_zero]
  refine Walk.val (G := Is (.agg (bytesV key).toArray)) (stays_is _ _) rfl rfl (fun a w hm hd => ⟨wanted_plain rfl, _, ex_load_row rfl G 29 _ _ (by rw [hm.outer 3 (by kernel_rfl)]; rfl) (R0.out.grown0 hm.grow.none2) Try.underlying29 rfl (by rw [HKL.out]; kernel_rfl), rfl⟩) ?_
  refine Walk.val (G := Is (.int .u32 (n.toNat : Int))) (stays_is _ _) rfl rfl (fun a w hm hd => ⟨wanted_plain rfl, _, ex_move rfl, by rw [hm.outer 1 (by kernel_rfl)]; rfl⟩) ?_
  refine Walk.val (G := Is (.agg (bytesV nonce).toArray)) (stays_is _ _) rfl rfl (fun a w hm hd => ⟨wanted_plain rfl, _, ex_load_row rfl (G + 1) 30 _ _ (by rw [hm.outer 5 (by kernel_rfl)]; rfl) (R1.out.grown0 hm.grow.none2) Try.underlying30 rfl (by rw [HNL.out]; kernel_rfl), rfl⟩) ?_
  refine Walk.call (G := IsI key n nonce W0.heap.size) (fun _ _ _ _ _ h hg => IsI.grown0 h hg) rfl 15 rfl (fun a w hm _ hd => ⟨wanted_plain rfl, _, ex_call3 Try.func15 (by kernel_rfl) (by kernel_rfl) rfl, by
    rw [show a.eval (.tmp 14) = _ from hd.at_ 0 rfl rfl rfl rfl, show a.eval (.tmp 15) = _ from hd.at_ 1 rfl rfl rfl rfl, show a.eval (.tmp 16) = _ from hd.at_ 2 rfl rfl rfl rfl]
    refine (blocks_any key n nonce w).mono ?_
    rintro e w' ⟨gn, gk, gc, rfl, hclo, hg, h1, h2, h3⟩
    have hs : W0.heap.size ≤ w.heap.size := hm.grow.none2.size
    exact ⟨_, rfl, hg, gn, gk, gc, rfl, hclo, by omega, by omega, by omega⟩⟩) ?_
  refine Walk.val (G := Is (.agg (bytesV key).toArray)) (stays_is _ _) rfl rfl (fun a w hm hd => ⟨wanted_plain rfl, _, ex_load_row rfl G 29 _ _ (by rw [hm.outer 3 (by kernel_rfl)]; rfl) (R0.out.grown0 hm.grow.none2) Try.underlying29 rfl (by rw [HKL.out]; kernel_rfl), rfl⟩) ?_
  refine Walk.val (G := Is (.int .u32 (n.toNat : Int))) (stays_is _ _) rfl rfl (fun a w hm hd => ⟨wanted_plain rfl, _, ex_move rfl, by rw [hm.outer 1 (by kernel_rfl)]; rfl⟩) ?_
  refine Walk.val (G := Is (.int .u32 (n1.toNat : Int))) (stays_is _ _) rfl rfl (fun a w hm hd => ⟨wanted_plain rfl, _, ex_add32 n1 rfl (hd.at_ 5 rfl rfl rfl rfl) (show Is (.int .u32 ((1 : Nat) : Int)) _ _ from rfl) HN1.out, rfl⟩) ?_
  refine Walk.val (G := Is (.agg (bytesV nonce).toArray)) (stays_is _ _) rfl rfl (fun a w hm hd => ⟨wanted_plain rfl, _, ex_load_row rfl (G + 1) 30 _ _ (by rw [hm.outer 5 (by kernel_rfl)]; rfl) (R1.out.grown0 hm.grow.none2) Try.underlying30 rfl (by rw [HNL.out]; kernel_rfl), rfl⟩) ?_
  refine Walk.call (G := IsI key n1 nonce W0.heap.size) (fun _ _ _ _ _ h hg => IsI.grown0 h hg) rfl 15 rfl (fun a w hm _ hd => ⟨wanted_plain rfl, _, ex_call3 Try.func15 (by kernel_rfl) (by kernel_rfl) rfl, by
    rw [show a.eval (.tmp 18) = _ from hd.at_ 4 rfl rfl rfl rfl, show a.eval (.tmp 20) = _ from hd.at_ 6 rfl rfl rfl rfl, show a.eval (.tmp 21) = _ from hd.at_ 7 rfl rfl rfl rfl]
    refine (blocks_any key n1 nonce w).mono ?_
    rintro e w' ⟨gn, gk, gc, rfl, hclo, hg, h1, h2, h3⟩
    have hs : W0.heap.size ≤ w.heap.size := hm.grow.none2.size
    exact ⟨_, rfl, hg, gn, gk, gc, rfl, hclo, by omega, by omega, by omega⟩⟩) ?_
  refine Walk.val (G := IsI key n nonce W0.heap.size) (fun _ _ _ _ _ h hg => IsI.grown0 h hg) rfl rfl (fun a w hm hd => ⟨wanted_plain rfl, _, ex_assign rfl, hd.at_ 3 rfl rfl rfl rfl⟩) ?_
  refine Walk.val (G := IsI key n1 nonce W0.heap.size) (fun _ _ _ _ _ h hg => IsI.grown0 h hg) rfl rfl (fun a w hm hd => ⟨wanted_plain rfl, _, ex_assign rfl, hd.at_ 8 rfl rfl rfl rfl⟩) ?_
  intro a9 w7 hm7 hall
  have f9 : IsI key n nonce W0.heap.size (a9.eval (.tmp 9)) w7 := hall 9 _ _ rfl rfl
  have f10 : IsI key n1 nonce W0.heap.size (a9.eval (.tmp 10)) w7 := hall 10 _ _ rfl rfl
  obtain ⟨gn, gy, gc, hv9, hclo, hl1, hl2, hl3⟩ := f9
  obtain ⟨hgn, hgy, hgc, hv10, hclo', hl4, hl5, hl6⟩ := f10
  have hg7 : W0.grownBy w7 none := GrownX.none2 hm7.grow
  have hfr := hm7.frame
  simp only [List.take_succ_cons, List.take_zero, List.filterMap_cons, List.filterMap_nil, List.foldl_cons, List.foldl_nil] at hfr
  rw [hv9, hv10] at hfr
  rw [hfr]
  have hlb := RB.out.lt
  have HLO := Lib.hid (show (G + 3 < gn ∧ G + 3 < gy ∧ G + 3 < gc) ∧ G + 3 < hgn ∧ G + 3 < hgy ∧ G + 3 < hgc by omega)
  have HCLO := Lib.hid hclo
  have HCLO' := Lib.hid hclo'
  have RA7 := Lib.hid (RA.out.grown0 hg7)
  have RB7 := Lib.hid (RB.out.grown0 hg7)
  have HG7 := Lib.hid (HGR.out.trans hg7)
  have HB7 := Lib.hid (show G + 3 < w7.heap.size by have := hg7.size; omega)
  clear hv9 hv10 hclo hclo' hl1 hl2 hl3 hl4 hl5 hl6 hg7 hfr hlb R0 R1 RA RB HGR
  generalize a9.eval (.tmp 14) = e14
  generalize a9.eval (.tmp 15) = e15
  generalize a9.eval (.tmp 16) = e16
  generalize a9.eval (.tmp 17) = e17
  generalize a9.eval (.tmp 18) = e18
  generalize a9.eval (.tmp 19) = e19
  generalize a9.eval (.tmp 20) = e20
  generalize a9.eval (.tmp 21) = e21
  generalize a9.eval (.tmp 22) = e22
  clear hm7 hall
  unfold iterV
  simp only [Act.put, List.setIfInBounds_toArray, List.set_cons_succ, List.set_cons_zero]
  have heq : (binOp .eql 35 (.func (.func 26) #[] #[.pointer (some ⟨gn, 0, none⟩), .pointer (some ⟨gy, 0, none⟩), .pointer (some ⟨gc, 0, none⟩)]) .nilFunc).run Try.prog w7 = .ok (.bool false) w7 := by kernel_rfl
  have heq2 : (binOp .eql 35 (.func (.func 26) #[] #[.pointer (some ⟨hgn, 0, none⟩), .pointer (some ⟨hgy, 0, none⟩), .pointer (some ⟨hgc, 0, none⟩)]) .nilFunc).run Try.prog w7 = .ok (.bool false) w7 := by kernel_rfl
  go_wp2
  clear heq heq2
  refine wp_range_ever (gf := 26) (lb := #[.pointer (some ⟨gn, 0, none⟩), .pointer (some ⟨gy, 0, none⟩), .pointer (some ⟨gc, 0, none⟩)]) rfl (enters_at Try.func26 (by kernel_rfl) (by kernel_rfl))
    (iter_any key HK.out n nonce HN.out gn gy gc 6 (by decide)) (fun _ => rfl)
    (fun k W => k < 6 ∧ ∃ va, SK w7 (G + 1 + 1) (fun k => bytesV (catB key n nonce k)) k va W) (fun c W => c = .exit 0 ∧ ∃ va, SK w7 (G + 1 + 1) (fun k => bytesV (catB key n nonce k)) 6 va W) ?bound ?own ?ownx ?start
    (fun k a' W => ∃ gb va ys, blok key (n + BitVec.ofNat 32 k) nonce = ys ∧ k < 6 ∧ SK w7 (G + 1 + 1) (fun k => bytesV (catB key n nonce k)) k va W ∧ Row W gb 31 (bytesV ys) ∧ G + 1 + 1 ≠ gb ∧ va.ownBlock ≠ some gb ∧
      a' = { tmps := #[.agg (bytesV key).toArray, .int .u32 (n.toNat : Int), .agg (bytesV nonce).toArray, .pointer (some ⟨G, 0, none⟩), undef, .pointer (some ⟨G + 1, 0, none⟩), .bool false, .pointer (some ⟨G + 1 + 1, 0, none⟩), .pointer (some ⟨G + 1 + 1 + 1, 0, none⟩), .func (.func 26) #[] #[.pointer (some ⟨gn, 0, none⟩), .pointer (some ⟨gy, 0, none⟩), .pointer (some ⟨gc, 0, none⟩)], .func (.func 26) #[] #[.pointer (some ⟨hgn, 0, none⟩), .pointer (some ⟨hgy, 0, none⟩), .pointer (some ⟨hgc, 0, none⟩)], .pointer (some ⟨gb, 0, none⟩), undef, undef, e14, e15, e16, e17, e18, e19, e20, e21, e22, .func (.func 26) #[] #[.pointer (some ⟨gn, 0, none⟩), .pointer (some ⟨gy, 0, none⟩), .pointer (some ⟨gc, 0, none⟩)], .bool false, .bool false, .func (.func 26) #[] #[.pointer (some ⟨hgn, 0, none⟩), .pointer (some ⟨hgy, 0, none⟩), .pointer (some ⟨hgc, 0, none⟩)], .bool false, .bool false, .func (.func 26) #[] #[.pointer (some ⟨gn, 0, none⟩), .pointer (some ⟨gy, 0, none⟩), .pointer (some ⟨gc, 0, none⟩)], .agg (bytesV ys).toArray, undef, undef, undef, undef, undef, undef, undef, undef, undef, undef, undef, undef, undef, undef, undef, undef, undef, undef, undef, undef, undef, undef, undef, undef, undef, undef, undef, undef, undef, undef, undef, undef, undef, undef, undef, undef, undef, undef, undef, undef, undef, undef, undef], defers := [] }) ?ownA ?assign ?body ?stop
  case bound =>
    rintro k W ⟨h1, va, h2⟩
    exact ⟨h1, HCLO.out.grown h2.kept (by have := HLO.out; omega) (by have := HLO.out; omega) (by have := HLO.out; omega)⟩
  case own =>
    rintro k W W' row ⟨h1, va, h2⟩ hg hr
    exact ⟨h1, va, h2.own' (Nat.le_refl _) hg hr⟩
  case ownx =>
    rintro c W W' row ⟨h1, va, h2⟩ hg hr
    exact ⟨h1, va, h2.own' (Nat.le_refl _) hg hr⟩
  case start => exact ⟨by decide, _, ⟨grown_refl _ _, RA7.out, World.ownsRow_nil _ _ _ _⟩⟩
  case ownA =>
    rintro a' k W W' row ⟨gb, va, ys, h0, h1, h2, hb, h3, h4, rfl⟩ hg hr
    exact ⟨gb, va, ys, h0, h1, h2.own' (Nat.le_refl _) hg hr, hb.own hg hr, h3, h4, rfl⟩
  case assign =>
    rintro l k W K ⟨hkM, va, hI⟩ hK
    have HI := Lib.hid hI
    have HKc := Lib.hid hK
    have HKM := Lib.hid hkM
    obtain ⟨ys, hys⟩ : ∃ y, blok key (n + BitVec.ofNat 32 k) nonce = y := ⟨_, rfl⟩
    have HYS := Lib.hid hys
    have HBL' := Lib.hid (show (bytesV ys).length = 64 by rw [bytesV_len, ← hys, blok_len])
    have HO := Lib.hid (fun x hx => bytesV_one ys x hx)
    rw [hys]
    clear hI hK hkM hys
    refine region_round (by kernel_rfl) (fun _ _ h => h) ?_
    go_simp
    go_wp2_with (refine wpList_store_row _ rfl rfl _ _ 31 rfl W.heap.size 31 (noughts8 64) (bytesV ys) rfl rfl (Row.new W 31 (noughts8 64)) (by rw [HBL'.out]; rfl) HO.out (by rw [HBL'.out]; kernel_rfl) ?_; intro w5 hr5 hg5)
    have hgw : W.grownBy w5 none := grown_own (grown_alloc (grown_refl _ _) _) hg5 (Nat.le_refl _)
    have e1 := HI.out.box.lt
    exact HKc.out _ _ (KeepsFrom.of_grownBy hgw (fun j e => by cases e)) ⟨W.heap.size, va, ys, HYS.out, HKM.out, HI.out.grown0 hgw, hr5, by omega, fun e => by have := (HI.out.own.lt _ e).2; omega, rfl⟩
  case body =>
    rintro l k a' W ⟨gb, va, ys, hys, hkM, hI, hb, h1, h2, rfl⟩
    have HI := Lib.hid hI
    have HKM := Lib.hid hkM
    have HNB := Lib.hid h2
    have HYS := Lib.hid hys
    have HBY := Lib.hid (show (bytesV ys).length = 64 by rw [bytesV_len, ← hys, blok_len])
    have HBR := Lib.hid hb
    clear hI hkM h1 h2 hys hb
    refine wpIn_block ?_
    refine wpIn_seq_k ?_
    intro K1 hK1
    have HK1 := Lib.hid hK1
    clear hK1
    refine region_round (by kernel_rfl) (fun _ _ h => h) ?_
    refine wpList_loadS rfl _ rfl (G + 1 + 1) va rfl HI.out.box ?_
    refine wpList_load_row _ rfl _ 31 rfl gb 31 (bytesV ys) _ rfl HBR.out Try.underlying31 rfl (by rw [HBY.out]; kernel_rfl) ?_
    refine wpList_build1 rfl _ rfl (bytesV ys) HBY.out rfl ?_
    have hg1 := grown_alloc (grown_refl W none) (.cells (bytesV ys).toArray 31)
    have hI1 := HI.out.grown0 hg1
    refine wpList_app64 rfl _ _ rfl w7.heap.size va k _ rfl hI1.own W.heap.size (bytesV ys) rfl (Row.new W _ _) HBY.out (bytesV_one ys) (by have := HKM.out; omega) (by have := hI1.kept.size; omega) ?_
    intro g' c w' ho hg hor
    have hlow : G + 1 + 1 < w7.heap.size := by have := HB7.out; omega
    have hbox : Row w' (G + 1 + 1) 42 [va] := hI1.box.grown hg (fun e => by have := (hI1.own.lt _ e.symm).1; omega)
    obtain ⟨k1, hk1⟩ : ∃ k1, k + 1 = k1 := ⟨_, rfl⟩
    rw [hk1] at ho
    rw [hk1]
    obtain ⟨w8, hw8⟩ : ∃ W, w'.setCell ⟨G + 1 + 1, 0, none⟩ (.slice (some ⟨g', 0, none⟩) k1 c) = W := ⟨_, rfl⟩
    have hs8 := grown_set w' (G + 1 + 1) 0 (.slice (some ⟨g', 0, none⟩) k1 c)
    have hb8 := hbox.set 0 (.slice (some ⟨g', 0, none⟩) k1 c)
    rw [hw8] at hs8 hb8
    have hcat : bytesV (catB key n nonce k) ++ bytesV ys = bytesV (catB key n nonce k1) := by rw [← hk1, catB, bytesV_app, HYS.out]
    have HSK := Lib.hid (show SK w7 (G + 1 + 1) (fun k => bytesV (catB key n nonce k)) k1 (.slice (some ⟨g', 0, none⟩) k1 c) w8 from
      ⟨kept_new (kept_new hI1.kept hg (fun r e => .inl (hI1.own.lt _ e).1)) hs8 (fun r e => .inr (by cases e; rfl)), hb8, by
        have := own_other ho hs8 (fun r e => by cases e; exact hlow)
        rw [hcat] at this
        exact this⟩)
    have HKP := Lib.hid (show KeepsFrom w7.heap.size W w8 from (KeepsFrom.of_grownBy hg1 (fun j e => by cases e)).trans ((keeps_own hI1.own hg).trans (KeepsFrom.of_grownBy hs8 (fun j e => by cases e; exact hlow))))
    have cA := hbox.cell (j := 0) rfl
    have fA := hbox.frozen 0
    have cA8 := hb8.cell (j := 0) rfl
    have HK1E := Lib.hid hk1
    clear hor ho hg hI1 hg1 hbox hs8 hb8 hcat hk1 hlow
    simp only [Act.put, List.setIfInBounds_toArray, List.set_cons_succ, List.set_cons_zero]
    go_wp2
    refine HK1.out _ _ ?_
    clear cA fA hw8
    by_cases hlast : k1 = 6
    · have HLA := Lib.hid hlast
      subst hlast
      gi_wp2
      exact ⟨HKP.out, rfl, _, HSK.out⟩
    · have hdec : ((k1 : Int) == 6) = false := by simp; omega
      have HLA := Lib.hid hlast
      gi_wp2
      exact ⟨HKP.out, by have := HK1E.out; have := HKM.out; have := HLA.out; omega, _, by rw [HK1E.out]; exact HSK.out⟩
  case stop =>
    rintro D cc V hD ⟨rfl, va, hX⟩ hdef
    obtain ⟨ga, ca, cura, rfl, hlo, hcur, hc1, hc2, hsz, htk⟩ : ∃ g cap cur, va = .slice (some ⟨g, 0, none⟩) 6 cap ∧ w7.heap.size ≤ g ∧ V.heap[g]? = some (.cells cur 31 (0, 0)) ∧ 6 ≤ cap ∧ cap ≤ maxLen ∧ cur.size = cap * 64 ∧ cur.toList.take (6 * 64) = bytesV (catB key n nonce 6) := by
      rcases hX.own.2 with ⟨_, e⟩ | h
      · cases e
      · exact h
    have HA1 := Lib.hid hX.box
    have HRA1 := Lib.hid (show Row V ga 31 cura.toList from hcur)
    have HTA := Lib.hid htk
    have hbg := HB7.out
    have HGA := Lib.hid (show w7.heap.size ≤ ga from hlo)
    have HCLO2 := Lib.hid (HCLO'.out.grown hX.kept (by have := HLO.out; omega) (by have := HLO.out; omega) (by have := HLO.out; omega))
    have RB8 := Lib.hid (RB7.out.grown hX.kept (by simp))
    have HG8 := Lib.hid (show w.grownBy V none from grown_own HG7.out hX.kept (by have := HG.out; omega))
    have HDEF := Lib.hid hdef
    have HDD := Lib.hid hD
    have HB8 := Lib.hid (show G + 3 < V.heap.size by have := hX.kept.size; omega)
    clear hX hdef hD hlo hcur hc1 hc2 hsz htk hbg HCLO HCLO' RA7 RB7
    go_wp2
    refine wp_range_ever (gf := 26) (lb := #[.pointer (some ⟨hgn, 0, none⟩), .pointer (some ⟨hgy, 0, none⟩), .pointer (some ⟨hgc, 0, none⟩)]) rfl (enters_at Try.func26 (by kernel_rfl) (by kernel_rfl))
      (iter_any key HK.out n1 nonce HN.out hgn hgy hgc 5 (by decide)) (fun _ => rfl)
      (fun k W => k < 5 ∧ ∃ va, SK V (G + 1 + 1 + 1) (fun k => bytesV (catB key n1 nonce k)) k va W) (fun c W => c = .exit 2 ∧ ∃ va, SK V (G + 1 + 1 + 1) (fun k => bytesV (catB key n1 nonce k)) 5 va W) ?bound ?own ?ownx ?start
      (fun k a' W => ∃ gb va ys, blok key (n1 + BitVec.ofNat 32 k) nonce = ys ∧ k < 5 ∧ SK V (G + 1 + 1 + 1) (fun k => bytesV (catB key n1 nonce k)) k va W ∧ Row W gb 31 (bytesV ys) ∧ G + 1 + 1 + 1 ≠ gb ∧ va.ownBlock ≠ some gb ∧
        a' = { tmps := #[.agg (bytesV key).toArray, .int .u32 (n.toNat : Int), .agg (bytesV nonce).toArray, .pointer (some ⟨G, 0, none⟩), undef, .pointer (some ⟨G + 1, 0, none⟩), .bool false, .pointer (some ⟨G + 1 + 1, 0, none⟩), .pointer (some ⟨G + 1 + 1 + 1, 0, none⟩), .func (.func 26) #[] #[.pointer (some ⟨gn, 0, none⟩), .pointer (some ⟨gy, 0, none⟩), .pointer (some ⟨gc, 0, none⟩)], .func (.func 26) #[] #[.pointer (some ⟨hgn, 0, none⟩), .pointer (some ⟨hgy, 0, none⟩), .pointer (some ⟨hgc, 0, none⟩)], undef, .pointer (some ⟨gb, 0, none⟩), undef, e14, e15, e16, e17, e18, e19, e20, e21, e22, .func (.func 26) #[] #[.pointer (some ⟨gn, 0, none⟩), .pointer (some ⟨gy, 0, none⟩), .pointer (some ⟨gc, 0, none⟩)], .bool false, .bool false, .func (.func 26) #[] #[.pointer (some ⟨hgn, 0, none⟩), .pointer (some ⟨hgy, 0, none⟩), .pointer (some ⟨hgc, 0, none⟩)], .bool false, .bool false, .func (.func 26) #[] #[.pointer (some ⟨gn, 0, none⟩), .pointer (some ⟨gy, 0, none⟩), .pointer (some ⟨gc, 0, none⟩)], undef, undef, undef, undef, undef, undef, undef, undef, .func (.func 26) #[] #[.pointer (some ⟨hgn, 0, none⟩), .pointer (some ⟨hgy, 0, none⟩), .pointer (some ⟨hgc, 0, none⟩)], .agg (bytesV ys).toArray, undef, undef, undef, undef, undef, undef, undef, undef, undef, undef, undef, undef, undef, undef, undef, undef, undef, undef, undef, undef, undef, undef, undef, undef, undef, undef, undef, undef, undef, undef, undef, undef, undef, undef], defers := [] }) ?ownA ?assign ?body ?stop
    case bound =>
      rintro k W ⟨h1, va, h2⟩
      exact ⟨h1, HCLO2.out.grown h2.kept (by have := HLO.out; omega) (by have := HLO.out; omega) (by have := HLO.out; omega)⟩
    case own =>
      rintro k W W' row ⟨h1, va, h2⟩ hg hr
      exact ⟨h1, va, h2.own' (Nat.le_refl _) hg hr⟩
    case ownx =>
      rintro c W W' row ⟨h1, va, h2⟩ hg hr
      exact ⟨h1, va, h2.own' (Nat.le_refl _) hg hr⟩
    case start => exact ⟨by decide, _, ⟨grown_refl _ _, RB8.out, World.ownsRow_nil _ _ _ _⟩⟩
    case ownA =>
      rintro a' k W W' row ⟨gb, va, ys, h0, h1, h2, hb, h3, h4, rfl⟩ hg hr
      exact ⟨gb, va, ys, h0, h1, h2.own' (Nat.le_refl _) hg hr, hb.own hg hr, h3, h4, rfl⟩
    case assign =>
      rintro l k W K ⟨hkM, va, hI⟩ hK
      have HI := Lib.hid hI
      have HKc := Lib.hid hK
      have HKM := Lib.hid hkM
      obtain ⟨ys, hys⟩ : ∃ y, blok key (n1 + BitVec.ofNat 32 k) nonce = y := ⟨_, rfl⟩
      have HYS := Lib.hid hys
      have HBL' := Lib.hid (show (bytesV ys).length = 64 by rw [bytesV_len, ← hys, blok_len])
      have HO := Lib.hid (fun x hx => bytesV_one ys x hx)
      rw [hys]
      clear hI hK hkM hys
      refine region_round (by kernel_rfl) (fun _ _ h => h) ?_
      go_simp
      go_wp2_with (refine wpList_store_row _ rfl rfl _ _ 31 rfl W.heap.size 31 (noughts8 64) (bytesV ys) rfl rfl (Row.new W 31 (noughts8 64)) (by rw [HBL'.out]; rfl) HO.out (by rw [HBL'.out]; kernel_rfl) ?_; intro w5 hr5 hg5)
      have hgw : W.grownBy w5 none := grown_own (grown_alloc (grown_refl _ _) _) hg5 (Nat.le_refl _)
      have e1 := HI.out.box.lt
      exact HKc.out _ _ (KeepsFrom.of_grownBy hgw (fun j e => by cases e)) ⟨W.heap.size, va, ys, HYS.out, HKM.out, HI.out.grown0 hgw, hr5, by omega, fun e => by have := (HI.out.own.lt _ e).2; omega, rfl⟩
    case body =>
      rintro l k a' W ⟨gb, va, ys, hys, hkM, hI, hb, h1, h2, rfl⟩
      have HI := Lib.hid hI
      have HKM := Lib.hid hkM
      have HNB := Lib.hid h2
      have HYS := Lib.hid hys
      have HBY := Lib.hid (show (bytesV ys).length = 64 by rw [bytesV_len, ← hys, blok_len])
      have HBR := Lib.hid hb
      clear hI hkM h1 h2 hys hb
      refine wpIn_block ?_
      refine wpIn_seq_k ?_
      intro K1 hK1
      have HK1 := Lib.hid hK1
      clear hK1
      refine region_round (by kernel_rfl) (fun _ _ h => h) ?_
      refine wpList_loadS rfl _ rfl (G + 1 + 1 + 1) va rfl HI.out.box ?_
      refine wpList_load_row _ rfl _ 31 rfl gb 31 (bytesV ys) _ rfl HBR.out Try.underlying31 rfl (by rw [HBY.out]; kernel_rfl) ?_
      refine wpList_build1 rfl _ rfl (bytesV ys) HBY.out rfl ?_
      have hg1 := grown_alloc (grown_refl W none) (.cells (bytesV ys).toArray 31)
      have hI1 := HI.out.grown0 hg1
      refine wpList_app64 rfl _ _ rfl V.heap.size va k _ rfl hI1.own W.heap.size (bytesV ys) rfl (Row.new W _ _) HBY.out (bytesV_one ys) (by have := HKM.out; omega) (by have := hI1.kept.size; omega) ?_
      intro g' c w' ho hg hor
      have hlow : G + 1 + 1 + 1 < V.heap.size := by have := HB8.out; omega
      have hbox : Row w' (G + 1 + 1 + 1) 42 [va] := hI1.box.grown hg (fun e => by have := (hI1.own.lt _ e.symm).1; omega)
      obtain ⟨k1, hk1⟩ : ∃ k1, k + 1 = k1 := ⟨_, rfl⟩
      rw [hk1] at ho
      rw [hk1]
      obtain ⟨w8, hw8⟩ : ∃ W, w'.setCell ⟨G + 1 + 1 + 1, 0, none⟩ (.slice (some ⟨g', 0, none⟩) k1 c) = W := ⟨_, rfl⟩
      have hs8 := grown_set w' (G + 1 + 1 + 1) 0 (.slice (some ⟨g', 0, none⟩) k1 c)
      have hb8 := hbox.set 0 (.slice (some ⟨g', 0, none⟩) k1 c)
      rw [hw8] at hs8 hb8
      have hcat : bytesV (catB key n1 nonce k) ++ bytesV ys = bytesV (catB key n1 nonce k1) := by rw [← hk1, catB, bytesV_app, HYS.out]
      have HSK := Lib.hid (show SK V (G + 1 + 1 + 1) (fun k => bytesV (catB key n1 nonce k)) k1 (.slice (some ⟨g', 0, none⟩) k1 c) w8 from
        ⟨kept_new (kept_new hI1.kept hg (fun r e => .inl (hI1.own.lt _ e).1)) hs8 (fun r e => .inr (by cases e; rfl)), hb8, by
          have := own_other ho hs8 (fun r e => by cases e; exact hlow)
          rw [hcat] at this
          exact this⟩)
      have HKP := Lib.hid (show KeepsFrom V.heap.size W w8 from (KeepsFrom.of_grownBy hg1 (fun j e => by cases e)).trans ((keeps_own hI1.own hg).trans (KeepsFrom.of_grownBy hs8 (fun j e => by cases e; exact hlow))))
      have cA := hbox.cell (j := 0) rfl
      have fA := hbox.frozen 0
      have cA8 := hb8.cell (j := 0) rfl
      have HK1E := Lib.hid hk1
      clear hor ho hg hI1 hg1 hbox hs8 hb8 hcat hk1 hlow
      simp only [Act.put, List.setIfInBounds_toArray, List.set_cons_succ, List.set_cons_zero]
      go_wp2
      refine HK1.out _ _ ?_
      clear cA fA hw8
      by_cases hlast : k1 = 5
      · have HLA := Lib.hid hlast
        subst hlast
        gi_wp2
        exact ⟨HKP.out, rfl, _, HSK.out⟩
      · have hdec : ((k1 : Int) == 5) = false := by simp; omega
        have HLA := Lib.hid hlast
        gi_wp2
        exact ⟨HKP.out, by have := HK1E.out; have := HKM.out; have := HLA.out; omega, _, by rw [HK1E.out]; exact HSK.out⟩
    case stop =>
      rintro D2 cc U hD2 ⟨rfl, vb, hX2⟩ hdef2
      obtain ⟨gb, cb, curb, rfl, hlo2, hcur2, hc1, hc2, hsz2, htk2⟩ : ∃ g cap cur, vb = .slice (some ⟨g, 0, none⟩) 5 cap ∧ V.heap.size ≤ g ∧ U.heap[g]? = some (.cells cur 31 (0, 0)) ∧ 5 ≤ cap ∧ cap ≤ maxLen ∧ cur.size = cap * 64 ∧ cur.toList.take (5 * 64) = bytesV (catB key n1 nonce 5) := by
        rcases hX2.own.2 with ⟨_, e⟩ | h
        · cases e
        · exact h
      have HBB := Lib.hid hX2.box
      have HRB := Lib.hid (show Row U gb 31 curb.toList from hcur2)
      have HTB := Lib.hid htk2
      have hga := HGA.out
      have hbg := HB7.out
      have HBA := Lib.hid (HA1.out.grown hX2.kept (by simp))
      have HRA := Lib.hid (HRA1.out.grown hX2.kept (by simp; omega))
      have HGU := Lib.hid (show w.grownBy U none from grown_own HG8.out hX2.kept (by have := HG.out; omega))
      have hDV := (Array.getElem?_eq_some_iff.1 HDEF.out).1
      have HD1 := Lib.hid (show U.heap[D]? = some (.deferred (some [])) from (hX2.kept.block D hDV (by have := HDD.out; simp; omega)).trans HDEF.out)
      have HD2 := Lib.hid hdef2
      have HDN := Lib.hid (show D ≠ D2 ∧ w.heap.size ≤ D ∧ w.heap.size ≤ D2 by have := HDD.out; have := HG7.out.size; have := HG8.out.size; omega)
      clear hX2 hdef2 hcur2 hlo2 hc1 hc2 hsz2 htk2 hga hbg hDV HCLO2 RB8 HA1 HRA1 HG8 HDEF
      have cB := HBB.out.cell (j := 0) rfl
      have cA := HBA.out.cell (j := 0) rfl
      go_wp2
      go_loopw [49] (fun v W => ∃ i : Nat, i ≤ 5 ∧ v = .int .i64 i ∧ U.grownBy W none) (fun v _ => 5 - (intOf v).toNat)
      case atStart => exact ⟨0, by decide, rfl, grown_refl _ _⟩
      case round =>
        obtain ⟨i, hi, rfl, hgr⟩ := hrel
        have HGR := Lib.hid hgr
        have cB' := hgr.cell cB (by simp)
        by_cases hlt : i < 5
        · have hdec : decide ((i : Int) < 5) = true := by simp; omega
          have HLT := Lib.hid hlt
          obtain ⟨i1, hi1⟩ : ∃ i1, i + 1 = i1 := ⟨_, rfl⟩
          have HI1 := Lib.hid hi1
          obtain ⟨ys, hys⟩ : ∃ y, blok key (n + BitVec.ofNat 32 i1) nonce = y := ⟨_, rfl⟩
          have hys2 : blok key (n1 + BitVec.ofNat 32 i) nonce = ys := by
            rw [← hys, ← HN1.out, ← hi1, num_shift]
          have HYL := Lib.hid (show ys.length = 64 by rw [← hys, blok_len])
          have HYV := Lib.hid (show (bytesV ys).length = 64 by rw [bytesV_len, ← hys, blok_len])
          have HPA := Lib.hid (fun j u hu => blk_at HTA.out (show i1 < 6 by omega) hys j u hu)
          have HPB := Lib.hid (fun j u hu => blk_at HTB.out hlt hys2 j u hu)
          have HRA' := Lib.hid (HRA.out.grown0 hgr)
          have HRB' := Lib.hid (HRB.out.grown0 hgr)
          have HBA' := Lib.hid (HBA.out.grown0 hgr)
          have HBB' := Lib.hid (HBB.out.grown0 hgr)
          clear hi hlt hi1 hys hys2 hgr cA cB cB'
          go_wp2
          refine wp_region_walk3 15 [] dis_nil (by kernel_rfl) (by kernel_rfl) (by kernel_rfl) ?_
          simp only [List.take_succ_cons, List.take_zero, List.drop_succ_cons, List.drop_zero]
          refine Walk.val (G := Is (.slice (some ⟨ga, 0, none⟩) 6 ca)) (stays_is _ _) rfl rfl (fun a w hm hd => ⟨wanted_plain rfl, _, ex_loadBx rfl (by rw [hm.outer 7 (by kernel_rfl)]; rfl) (HBA'.out.grown0 hm.grow.none2), rfl⟩) ?_
          refine Walk.val (G := Is (.int .i64 ((6 : Nat) : Int))) (stays_is _ _) rfl rfl (fun a w hm hd => ⟨wanted_plain rfl, _, ex_lenB rfl (hd.at_ 0 rfl rfl rfl rfl), rfl⟩) ?_
          refine Walk.val (G := Is (.bool false)) (stays_is _ _) rfl rfl (fun a w hm hd => ⟨wanted_plain rfl, _, ex_neS (e := 6) rfl (hd.at_ 1 rfl rfl rfl rfl), rfl⟩) ?_
          refine Walk.val (G := Is (.bool false)) (stays_is _ _) rfl rfl (fun a w hm hd => ⟨wanted_plain rfl, _, ex_move rfl, hd.at_ 2 rfl rfl rfl rfl⟩) ?_
          refine Walk.val (G := Is (.slice (some ⟨ga, 0, none⟩) 6 ca)) (stays_is _ _) rfl rfl (fun a w hm hd => ⟨wanted_at rfl rfl (hd.at_ 3 rfl rfl rfl rfl), _, ex_loadBx rfl (by rw [hm.outer 7 (by kernel_rfl)]; rfl) (HBA'.out.grown0 hm.grow.none2), rfl⟩) ?_
          refine Walk.val (G := Is (.int .i64 (i : Int))) (stays_is _ _) rfl rfl (fun a w hm hd => ⟨wanted_at rfl rfl (hd.at_ 3 rfl rfl rfl rfl), _, ex_move rfl, by rw [hm.outer 13 (by kernel_rfl)]; rfl⟩) ?_
          refine Walk.val (G := Is (.int .i64 (i1 : Int))) (stays_is _ _) rfl rfl (fun a w hm hd => ⟨wanted_at rfl rfl (hd.at_ 3 rfl rfl rfl rfl), _, ex_addS rfl (hd.at_ 5 rfl rfl rfl rfl) HI1.out (by have := HLT.out; omega), rfl⟩) ?_
          refine Walk.val (G := Is (.pointer (some ⟨ga, 64 * i1, none⟩))) (stays_is _ _) rfl rfl (fun a w hm hd => ⟨wanted_at rfl rfl (hd.at_ 3 rfl rfl rfl rfl), _, ex_indexS rfl (hd.at_ 4 rfl rfl rfl rfl) (hd.at_ 6 rfl rfl rfl rfl) (by have := HLT.out; have := HI1.out; omega), rfl⟩) ?_
          refine Walk.val (G := Is (.agg (bytesV ys).toArray)) (stays_is _ _) rfl rfl (fun a w hm hd => ⟨wanted_at rfl rfl (hd.at_ 3 rfl rfl rfl rfl), _, ex_load_part rfl ga (64 * i1) 31 _ _ _ (hd.at_ 7 rfl rfl rfl rfl) (HRA'.out.grown0 hm.grow.none2) HPA.out Try.underlying31 rfl (by rw [HYV.out]; kernel_rfl), rfl⟩) ?_
          refine Walk.val (G := Is (.slice (some ⟨gb, 0, none⟩) 5 cb)) (stays_is _ _) rfl rfl (fun a w hm hd => ⟨wanted_at rfl rfl (hd.at_ 3 rfl rfl rfl rfl), _, ex_loadBx rfl (by rw [hm.outer 8 (by kernel_rfl)]; rfl) (HBB'.out.grown0 hm.grow.none2), rfl⟩) ?_
          refine Walk.val (G := Is (.int .i64 (i : Int))) (stays_is _ _) rfl rfl (fun a w hm hd => ⟨wanted_at rfl rfl (hd.at_ 3 rfl rfl rfl rfl), _, ex_move rfl, by rw [hm.outer 13 (by kernel_rfl)]; rfl⟩) ?_
          refine Walk.val (G := Is (.pointer (some ⟨gb, 64 * i, none⟩))) (stays_is _ _) rfl rfl (fun a w hm hd => ⟨wanted_at rfl rfl (hd.at_ 3 rfl rfl rfl rfl), _, ex_indexS rfl (hd.at_ 9 rfl rfl rfl rfl) (hd.at_ 10 rfl rfl rfl rfl) HLT.out, rfl⟩) ?_
          refine Walk.val (G := Is (.agg (bytesV ys).toArray)) (stays_is _ _) rfl rfl (fun a w hm hd => ⟨wanted_at rfl rfl (hd.at_ 3 rfl rfl rfl rfl), _, ex_load_part rfl gb (64 * i) 31 _ _ _ (hd.at_ 11 rfl rfl rfl rfl) (HRB'.out.grown0 hm.grow.none2) HPB.out Try.underlying31 rfl (by rw [HYV.out]; kernel_rfl), rfl⟩) ?_
          refine Walk.val (G := Is (.bool false)) (stays_is _ _) rfl rfl (fun a w hm hd => ⟨wanted_at rfl rfl (hd.at_ 3 rfl rfl rfl rfl), _, ex_ne64 (l := ys) HYL.out rfl (hd.at_ 8 rfl rfl rfl rfl) (hd.at_ 12 rfl rfl rfl rfl), rfl⟩) ?_
          refine Walk.val (G := Is (.bool false)) (stays_is _ _) rfl rfl (fun a w hm hd => ⟨wanted_plain rfl, _, ex_pickF rfl (hd.at_ 3 rfl rfl rfl rfl) (hd.at_ 13 rfl rfl rfl rfl), rfl⟩) ?_
          intro a8 w8 hm8 hall
          have f66 : a8.eval (.tmp 66) = .bool false := hall 14 _ _ rfl rfl
          have HG8 := Lib.hid (HGR.out.trans (GrownX.none2 hm8.grow))
          have hfr := hm8.frame
          simp only [List.take_succ_cons, List.take_zero, List.filterMap_cons, List.filterMap_nil, List.foldl_cons, List.foldl_nil] at hfr
          rw [f66] at hfr
          rw [hfr]
          clear f66 hfr HGR HRA' HRB' HBA' HBB' HPA HPB
          generalize a8.eval (.tmp 52) = s52
          generalize a8.eval (.tmp 53) = s53
          generalize a8.eval (.tmp 54) = s54
          generalize a8.eval (.tmp 55) = s55
          generalize a8.eval (.tmp 56) = s56
          generalize a8.eval (.tmp 57) = s57
          generalize a8.eval (.tmp 58) = s58
          generalize a8.eval (.tmp 59) = s59
          generalize a8.eval (.tmp 60) = s60
          generalize a8.eval (.tmp 61) = s61
          generalize a8.eval (.tmp 62) = s62
          generalize a8.eval (.tmp 63) = s63
          generalize a8.eval (.tmp 64) = s64
          generalize a8.eval (.tmp 65) = s65
          clear hm8 hall
          simp only [Act.put, List.setIfInBounds_toArray, List.set_cons_succ, List.set_cons_zero]
          have hib : i ≤ 5 := by have := HLT.out; omega
          go_wp2
          go_roundw
          case rel => exact ⟨i + 1, by have := HLT.out; omega, by go_num, HG8.out⟩
          case measure => have := HLT.out; simp [intOf]; omega
        · have hie : i = 5 := by omega
          subst hie
          clear hi hlt hgr
          go_wp2_with (go_at_call 12; refine (awake_any _).mono ?_; rintro e w5 ⟨rfl, hg5⟩)
          have hgu := HGR.out.trans hg5
          have hd2 : w5.heap[D2]? = some (.deferred (some [])) := (hgu.block D2 (Array.getElem?_eq_some_iff.1 HD2.out).1 (by simp)).trans HD2.out
          have hd1 : w5.heap[D]? = some (.deferred (some [])) := (hgu.block D (Array.getElem?_eq_some_iff.1 HD1.out).1 (by simp)).trans HD1.out
          have hd1' : (w5.putObj D2 (.deferred none)).heap[D]? = some (.deferred (some [])) := (World.putObj_heap_other HDN.out.1).trans hd1
          have hgw : w.grownBy w5 none := HGU.out.trans hgu
          refine ⟨by simp, .inl ⟨_, _, rfl, run_takeDeferred hd2, ?_⟩⟩
          refine ⟨by simp, .inl ⟨_, _, rfl, run_takeDeferred hd1', ?_⟩⟩
          refine ⟨.bool true, ?_, rfl, grown_own (grown_own hgw (grownBy_putObj' _ D2 _) HDN.out.2.2) (grownBy_putObj' _ D _) HDN.out.2.1⟩
          exact results_slot Try.results8 rfl
end Go.Proofs.Ytmhpnddelebjdaa
