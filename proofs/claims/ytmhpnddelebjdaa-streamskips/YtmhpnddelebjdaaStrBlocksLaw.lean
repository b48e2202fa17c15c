/-
  The law StreamBlocks, walked.
-/
import Derived.Test.YtmhpnddelebjdaaStrEq
namespace Go.Proofs.Ytmhpnddelebjdaa
open Go.RowKit
attribute [local go_sem] Oper.semAt_some

section
variable {o : Oper} {a : Act} {w : World}
theorem ex_load32 {x : Operand} {g : Nat} {v : Value} (h : o.op = .load 22 x) (hx : a.eval x = .pointer (some ⟨g, 0, none⟩)) (hr : Row w g 22 [v]) : (execOp a.eval o).run Try.prog w = .ok (.value v) w := by
  have hc := hr.cell (j := 0) rfl
  simp only [execOp, h, hx]
  simp [go_sem, hc]
theorem ex_loadN {x : Operand} {g : Nat} {v : Value} (h : o.op = .load 3 x) (hx : a.eval x = .pointer (some ⟨g, 0, none⟩)) (hr : Row w g 3 [v]) : (execOp a.eval o).run Try.prog w = .ok (.value v) w := by
  have hc := hr.cell (j := 0) rfl
  simp only [execOp, h, hx]
  simp [go_sem, hc]
theorem ex_conv3 {x : Operand} {k : Nat} (h : o.op = .convert 3 22 x) (hx : Is (.int .i64 (k : Int)) (a.eval x) w) (hk : k < 4294967296) : (execOp a.eval o).run Try.prog w = .ok (.value (.int .u32 (k : Int))) w := by
  have hx' : a.eval x = .int .i64 (k : Int) := hx
  have hw : IntKind.u32.wrap (k : Int) = (k : Int) := by rw [IntKind.wrap_u32]; omega
  simp only [execOp, h, hx']
  simp [go_sem, hw]
theorem ex_add32 {x y : Operand} {n : W32} {k : Nat} (z : W32) (h : o.op = .binOp .add 22 x y 22) (hx : Is (.int .u32 (n.toNat : Int)) (a.eval x) w) (hy : Is (.int .u32 (k : Int)) (a.eval y) w) (hz : n + BitVec.ofNat 32 k = z) : (execOp a.eval o).run Try.prog w = .ok (.value (.int .u32 (z.toNat : Int))) w := by
  have hx' : a.eval x = .int .u32 (n.toNat : Int) := hx
  have hy' : a.eval y = .int .u32 (k : Int) := hy
  have hw : IntKind.u32.wrap ((n.toNat : Int) + (k : Int)) = (z.toNat : Int) := by
    rw [IntKind.wrap_u32, ← hz, BitVec.toNat_add, BitVec.toNat_ofNat]
    omega
  simp only [execOp, h, hx', hy']
  simp [go_sem, hw]
end

/-- A bool that lies in a cell of its own. -/
theorem results_bool {tmps : Array Value} {w : World} {f : Func} {d : Nat} {b : Bool} (hres : f.results = #[.cell d 4]) (g : Nat) (hv : tmps.getD d undef = .pointer (some ⟨g, 0, none⟩)) (hr : Row w g 4 [.bool b]) : (results f tmps).run Try.prog w = .ok (.bool b) w := by
  have hc := hr.cell (j := 0) rfl
  simp only [results, hres]
  rw [Array.getD_eq_getD_getElem?] at hv
  simp [hv, asAddr, go_sem, hc]

/-- What lies there between two rounds. -/
structure BK (w : World) (G gk gn gy gc M : Nat) (key : List UInt8) (n : W32) (nonce : List UInt8) (m k : Nat) (W : World) : Prop where
  le : k ≤ M
  kr : Row W G 29 (bytesV key)
  nr : Row W (G + 1) 22 [.int .u32 (n.toNat : Int)]
  cr : Row W (G + 1 + 1) 30 (bytesV nonce)
  mr : Row W (G + 1 + 1 + 1) 5 [.int .u8 (m : Int)]
  rr : Row W (G + 1 + 1 + 1 + 1) 4 [.bool false]
  ar : Row W gk 3 [.int .i64 (k : Int)]
  clo : Clo gn gy gc key n nonce W
  grow : w.grownBy W none
theorem BK.own {B : Nat} {w W W' : World} {G gk gn gy gc M : Nat} {key : List UInt8} {n : W32} {nonce : List UInt8} {m k : Nat} {row : Option Nat} (h : BK w G gk gn gy gc M key n nonce m k W) (hB : w.heap.size ≤ B) (hg : W.grownBy W' row) (hr : ∀ r, row = some r → B ≤ r ∧ ∃ o : Obj, W.heap[r]? = some o ∧ o.isCells = false) : BK w G gk gn gy gc M key n nonce m k W' :=
  ⟨h.le, h.kr.own hg hr, h.nr.own hg hr, h.cr.own hg hr, h.mr.own hg hr, h.rr.own hg hr, h.ar.own hg hr, h.clo.own hg hr, grown_ownFrom h.grow hB hg hr⟩
theorem BK.grown0 {w W W' : World} {G gk gn gy gc M : Nat} {key : List UInt8} {n : W32} {nonce : List UInt8} {m k : Nat} (h : BK w G gk gn gy gc M key n nonce m k W) (hg : W.grownBy W' none) : BK w G gk gn gy gc M key n nonce m k W' :=
  h.own (Nat.le_refl _) hg (fun r e => by cases e)
/-- What lies there behind the loop. -/
structure BX (w : World) (G gk M m : Nat) (W : World) : Prop where
  mr : Row W (G + 1 + 1 + 1) 5 [.int .u8 (m : Int)]
  rr : Row W (G + 1 + 1 + 1 + 1) 4 [.bool false]
  ar : Row W gk 3 [.int .i64 ((M + 1 : Nat) : Int)]
  grow : w.grownBy W none
theorem BX.own {B : Nat} {w W W' : World} {G gk M m : Nat} {row : Option Nat} (h : BX w G gk M m W) (hB : w.heap.size ≤ B) (hg : W.grownBy W' row) (hr : ∀ r, row = some r → B ≤ r ∧ ∃ o : Obj, W.heap[r]? = some o ∧ o.isCells = false) : BX w G gk M m W' :=
  ⟨h.mr.own hg hr, h.rr.own hg hr, h.ar.own hg hr, grown_ownFrom h.grow hB hg hr⟩

set_option maxHeartbeats 8000000 in
theorem streamBlocks_walk (key : List UInt8) (hk : key.length = 32) (n : W32) (nonce : List UInt8) (hn : nonce.length = 12) (m : Nat) (hm8 : m < 256) (w : World) :
    Calls Try.prog 4 #[.agg (bytesV key).toArray, .int .u32 (n.toNat : Int), .agg (bytesV nonce).toArray, .int .u8 (m : Int)] w (Awake w) := by
  have HK := Lib.hid hk
  have HN := Lib.hid hn
  have HKL := Lib.hid (show (bytesV key).length = 32 by rw [bytesV_len, hk])
  have HNL := Lib.hid (show (bytesV nonce).length = 12 by rw [bytesV_len, hn])
  generalize hG : w.heap.size = G
  have HG := Lib.hid hG
  obtain ⟨W0, hW0⟩ : ∃ W, ((((w.alloc (.cells (bytesV key).toArray 29)).alloc (.cells #[.int .u32 (n.toNat : Int)] 22)).alloc (.cells (bytesV nonce).toArray 30)).alloc (.cells #[.int .u8 (m : Int)] 5)).alloc (.cells #[.bool false] 4) = W := ⟨_, rfl⟩
  have R0 := Lib.hid (show Row W0 G 29 (bytesV key) by rw [← hW0]; exact ((((Row.newAt w _ (bytesV key) hG).alloc _).alloc _).alloc _).alloc _)
  have RN := Lib.hid (show Row W0 (G + 1) 22 [.int .u32 (n.toNat : Int)] by rw [← hW0]; exact (((Row.newAt _ _ [.int .u32 (n.toNat : Int)] (by simp [hG])).alloc _).alloc _).alloc _)
  have R1 := Lib.hid (show Row W0 (G + 1 + 1) 30 (bytesV nonce) by rw [← hW0]; exact ((Row.newAt _ _ (bytesV nonce) (by simp [hG])).alloc _).alloc _)
  have RM := Lib.hid (show Row W0 (G + 1 + 1 + 1) 5 [.int .u8 (m : Int)] by rw [← hW0]; exact (Row.newAt _ _ [.int .u8 (m : Int)] (by simp [hG])).alloc _)
  have RR := Lib.hid (show Row W0 (G + 1 + 1 + 1 + 1) 4 [.bool false] by rw [← hW0]; exact Row.newAt _ _ [.bool false] (by simp [hG]))
  have HGR := Lib.hid (show w.grownBy W0 none by rw [← hW0]; exact grown_alloc (grown_alloc (grown_alloc (grown_alloc (grown_alloc (grown_refl _ _) _) _) _) _) _)
  have cn := RN.out.cell (j := 0) rfl
  have HBK := Lib.hid (fun V => block_any key hk n nonce hn V)
  obtain ⟨BL, hBL⟩ : ∃ l, blok key n nonce = l := ⟨_, rfl⟩
  rw [hBL] at HBK
  have HBLL := Lib.hid (show BL.length = 64 by rw [← hBL, blok_len])
  have HBV := Lib.hid (show (bytesV BL).length = 64 by rw [bytesV_len, HBLL.out])
  have HBO := Lib.hid (fun x hx => bytesV_one BL x hx)
  have HBL := Lib.hid hBL
  obtain ⟨M, hM⟩ : ∃ M, m % 5 = M := ⟨_, rfl⟩
  have hM5 : M < 5 := by omega
  have HM := Lib.hid hM
  clear hk hn hBL hM
  refine callsIn_wide.1 (callsIn_of_wp_marks (n := 0) Try.func4 rfl trivial (wpIn_wide.2 ?_) rfl)
  simp only [Try.ntmps4, List.size_toArray, List.length_cons, List.length_nil, Nat.reduceAdd, Nat.reduceSub, Array.replicate_succ, Array.replicate_zero, List.push_toArray, List.append_toArray, List.nil_append, List.cons_append]
  go_wp2_with (first
    | refine wpList_load_row _ rfl _ 29 rfl G 29 (bytesV key) _ rfl R0.out Try.underlying29 rfl (by rw [HKL.out]; kernel_rfl) ?_
    | refine wpList_load_row _ rfl _ 30 rfl (G + 1 + 1) 30 (bytesV nonce) _ rfl R1.out Try.underlying30 rfl (by rw [HNL.out]; kernel_rfl) ?_)
  refine (HBK.out W0).mono ?_
  rintro e w1 ⟨rfl, hg1⟩
  have HG1 := Lib.hid hg1
  clear hg1 cn hG hW0
  go_wp2_with (refine wpList_store_row _ rfl rfl _ _ 31 rfl w1.heap.size 31 (noughts8 64) (bytesV BL) rfl rfl (Row.new w1 31 (noughts8 64)) (by rw [HBV.out]; rfl) HBO.out (by rw [HBV.out]; kernel_rfl) ?_; intro w2 hr2 hg2)
  have hgw : W0.grownBy w2 none := grown_own (grown_alloc HG1.out _) hg2 HG1.out.size
  have R0a := Lib.hid (R0.out.grown0 hgw)
  have RNa := Lib.hid (RN.out.grown0 hgw)
  have R1a := Lib.hid (R1.out.grown0 hgw)
  have RMa := Lib.hid (RM.out.grown0 hgw)
  have RRa := Lib.hid (RR.out.grown0 hgw)
  have HGa := Lib.hid (HGR.out.trans hgw)
  have RBa := Lib.hid hr2
  clear hr2 hg2 hgw R0 RN R1 RM RR HGR HG1
  generalize w1.heap.size = gx at *
  refine wp_region_walk3 9 [] dis_nil (by kernel_rfl) (by kernel_rfl) (by kernel_rfl) ?_
  simp only [List.take_succ_cons, List.take_zero, List.drop_succ_cons, List.drop_zero]
  refine Walk.val (G := IsB BL) (fun _ _ _ _ _ h hg => Rd.grown0 h hg) rfl rfl (fun a w hm hd => ⟨wanted_plain rfl, _, ex_all64 rfl (by rw [hm.outer 9 (by kernel_rfl)]; rfl), (RBa.out.grown0 hm.grow.none2).rds 64 64 HBV.out (by decide) (by decide)⟩) ?_
  refine Walk.val (G := Is (.string ⟨BL.toArray⟩)) (stays_is _ _) rfl rfl (fun a w hm hd => ⟨wanted_plain rfl, _, ex_str rfl (hd.at_ 0 rfl rfl rfl rfl), rfl⟩) ?_
  refine Walk.val (G := IsB key) (fun _ _ _ _ _ h hg => Rd.grown0 h hg) rfl rfl (fun a w hm hd => ⟨wanted_plain rfl, _, ex_all32 rfl (by rw [hm.outer 4 (by kernel_rfl)]; rfl), (R0a.out.grown0 hm.grow.none2).rds 32 32 HKL.out (by decide) (by decide)⟩) ?_
  refine Walk.val (G := Is (.int .u32 (n.toNat : Int))) (stays_is _ _) rfl rfl (fun a w hm hd => ⟨wanted_plain rfl, _, ex_load32 rfl (by rw [hm.outer 5 (by kernel_rfl)]; rfl) (RNa.out.grown0 hm.grow.none2), rfl⟩) ?_
  refine Walk.val (G := Is (.int .i64 (n.toNat : Int))) (stays_is _ _) rfl rfl (fun a w hm hd => ⟨wanted_plain rfl, _, ex_conv32 rfl (hd.at_ 3 rfl rfl rfl rfl), rfl⟩) ?_
  refine Walk.val (G := IsB nonce) (fun _ _ _ _ _ h hg => Rd.grown0 h hg) rfl rfl (fun a w hm hd => ⟨wanted_plain rfl, _, ex_all12 rfl (by rw [hm.outer 6 (by kernel_rfl)]; rfl), (R1a.out.grown0 hm.grow.none2).rds 12 12 HNL.out (by decide) (by decide)⟩) ?_
  refine Walk.call (G := IsB BL) (fun _ _ _ _ _ h hg => Rd.grown0 h hg) rfl 14 rfl (fun a w hm _ hd => ⟨wanted_plain rfl, _, ex_call3 Try.func14 (by kernel_rfl) (by kernel_rfl) rfl, by
    rw [show a.eval (.tmp 21) = _ from hd.at_ 4 rfl rfl rfl rfl]
    have h0 : IsB key (a.eval (.tmp 19)) w := hd.at_ 2 rfl rfl rfl rfl
    have h2 : IsB nonce (a.eval (.tmp 22)) w := hd.at_ 5 rfl rfl rfl rfl
    refine (rblock_any _ _ key HK.out n nonce HN.out w h0 h2).mono ?_
    rintro e w' ⟨u, rfl, hru, hgu, _⟩
    rw [HBL.out] at hru
    exact ⟨u, rfl, hgu, hru⟩⟩) ?_
  refine Walk.val (G := Is (.string ⟨BL.toArray⟩)) (stays_is _ _) rfl rfl (fun a w hm hd => ⟨wanted_plain rfl, _, ex_str rfl (hd.at_ 6 rfl rfl rfl rfl), rfl⟩) ?_
  refine Walk.val (G := Is (.bool false)) (stays_is _ _) rfl rfl (fun a w hm hd => ⟨wanted_plain rfl, _, ex_nes rfl (hd.at_ 1 rfl rfl rfl rfl) (hd.at_ 7 rfl rfl rfl rfl), rfl⟩) ?_
  intro a9 w7 hm7 hall
  have f25 : a9.eval (.tmp 25) = .bool false := hall 8 _ _ rfl rfl
  have hg7 : w2.grownBy w7 none := GrownX.none2 hm7.grow
  have hfr := hm7.frame
  simp only [List.take_succ_cons, List.take_zero, List.filterMap_cons, List.filterMap_nil, List.foldl_cons, List.foldl_nil] at hfr
  rw [f25] at hfr
  rw [hfr]
  obtain ⟨gk, hgk⟩ : ∃ x, w7.heap.size = x := ⟨_, rfl⟩
  have hg8 : w2.grownBy (w7.alloc (.cells #[.int .i64 0] 3)) none := grown_alloc hg7 _
  have R0 := Lib.hid (R0a.out.grown0 hg8)
  have RN := Lib.hid (RNa.out.grown0 hg8)
  have R1 := Lib.hid (R1a.out.grown0 hg8)
  have RM := Lib.hid (RMa.out.grown0 hg8)
  have RR := Lib.hid (RRa.out.grown0 hg8)
  have HGR := Lib.hid (HGa.out.trans hg8)
  have RK := Lib.hid (show Row (w7.alloc (.cells #[.int .i64 0] 3)) gk 3 [.int .i64 0] from Row.newAt w7 _ [.int .i64 0] hgk)
  have HLT := Lib.hid (show G + 1 + 1 + 1 + 1 < gk by have := (RRa.out.grown0 hg7).lt; omega)
  have cn := RN.out.cell (j := 0) rfl
  clear f25 hg7 hg8 hfr R0a RNa R1a RMa RRa HGa RBa
  generalize a9.eval (.tmp 17) = e17
  generalize a9.eval (.tmp 18) = e18
  generalize a9.eval (.tmp 19) = e19
  generalize a9.eval (.tmp 20) = e20
  generalize a9.eval (.tmp 21) = e21
  generalize a9.eval (.tmp 22) = e22
  generalize a9.eval (.tmp 23) = e23
  generalize a9.eval (.tmp 24) = e24
  clear hm7 hall
  simp only [Act.put, List.setIfInBounds_toArray, List.set_cons_succ, List.set_cons_zero]
  go_wp2_with (first
    | refine wpList_load_row _ rfl _ 29 rfl G 29 (bytesV key) _ rfl R0.out Try.underlying29 rfl (by rw [HKL.out]; kernel_rfl) ?_
    | refine wpList_load_row _ rfl _ 30 rfl (G + 1 + 1) 30 (bytesV nonce) _ rfl R1.out Try.underlying30 rfl (by rw [HNL.out]; kernel_rfl) ?_)
  clear hgk cn
  generalize w7.alloc (.cells #[.int .i64 0] 3) = w8 at *
  refine (blocks_any key n nonce w8).mono ?_
  rintro e w9 ⟨gn, gy, gc, rfl, hclo, hg9, hx1, hx2, hx3⟩
  have HCLO := Lib.hid hclo
  have HBK0 := Lib.hid (show BK w G gk gn gy gc M key n nonce m 0 w9 from ⟨Nat.zero_le _, R0.out.grown0 hg9, RN.out.grown0 hg9, R1.out.grown0 hg9, RM.out.grown0 hg9, RR.out.grown0 hg9, RK.out.grown0 hg9, hclo, HGR.out.trans hg9⟩)
  have hlk := RK.out.lt
  have HLO := Lib.hid (show gk < gn ∧ gk < gy ∧ gk < gc by omega)
  have HKW := Lib.hid (show gk < w9.heap.size by have := hg9.size; omega)
  have HBASE := Lib.hid (show w.heap.size ≤ gk by have := HG.out; have := HLT.out; omega)
  have HWW := Lib.hid (show w.heap.size ≤ w9.heap.size by have := hg9.size; have := HGR.out.size; omega)
  clear hclo hg9 hx1 hx2 hx3 hlk R0 RN R1 RM RR RK HGR
  unfold iterV
  have heq : (binOp .eql 35 (.func (.func 26) #[] #[.pointer (some ⟨gn, 0, none⟩), .pointer (some ⟨gy, 0, none⟩), .pointer (some ⟨gc, 0, none⟩)]) .nilFunc).run Try.prog w9 = .ok (.bool false) w9 := by kernel_rfl
  go_wp2_with fail
  clear heq
  refine wp_range_ever (gf := 26) (lb := #[.pointer (some ⟨gn, 0, none⟩), .pointer (some ⟨gy, 0, none⟩), .pointer (some ⟨gc, 0, none⟩)]) rfl (enters_at Try.func26 (by kernel_rfl) (by kernel_rfl))
    (iter_any key HK.out n nonce HN.out gn gy gc 5 (by decide)) (fun _ => rfl)
    (BK w G gk gn gy gc M key n nonce m) (fun c W => c = .exit 0 ∧ BX w G gk M m W) ?bound ?own ?ownx ?start
    (fun k a' W => ∃ gb, BK w G gk gn gy gc M key n nonce m k W ∧ Row W gb 31 (bytesV (blok key (n + BitVec.ofNat 32 k) nonce)) ∧ gb ≠ gk ∧ gb ≠ G + 1 + 1 + 1 + 1 ∧
      a' = { tmps := #[.agg (bytesV key).toArray, .int .u32 (n.toNat : Int), .agg (bytesV nonce).toArray, .int .u8 (m : Int), .pointer (some ⟨G, 0, none⟩), .pointer (some ⟨G + 1, 0, none⟩), .pointer (some ⟨G + 1 + 1, 0, none⟩), .pointer (some ⟨G + 1 + 1 + 1, 0, none⟩), .pointer (some ⟨G + 1 + 1 + 1 + 1, 0, none⟩), .pointer (some ⟨gx, 0, none⟩), .pointer (some ⟨gk, 0, none⟩), .func (.func 26) #[] #[.pointer (some ⟨gn, 0, none⟩), .pointer (some ⟨gy, 0, none⟩), .pointer (some ⟨gc, 0, none⟩)], .pointer (some ⟨gb, 0, none⟩), .agg (bytesV key).toArray, .int .u32 (n.toNat : Int), .agg (bytesV nonce).toArray, .agg (bytesV BL).toArray, e17, e18, e19, e20, e21, e22, e23, e24, .bool false, .agg (bytesV key).toArray, .int .u32 (n.toNat : Int), .agg (bytesV nonce).toArray, .func (.func 26) #[] #[.pointer (some ⟨gn, 0, none⟩), .pointer (some ⟨gy, 0, none⟩), .pointer (some ⟨gc, 0, none⟩)], .func (.func 26) #[] #[.pointer (some ⟨gn, 0, none⟩), .pointer (some ⟨gy, 0, none⟩), .pointer (some ⟨gc, 0, none⟩)], .bool false, .func (.func 26) #[] #[.pointer (some ⟨gn, 0, none⟩), .pointer (some ⟨gy, 0, none⟩), .pointer (some ⟨gc, 0, none⟩)], .agg (bytesV (blok key (n + BitVec.ofNat 32 k) nonce)).toArray, undef, undef, undef, undef, undef, undef, undef, undef, undef, undef, undef, undef, undef, undef, undef, undef, undef, undef, undef, undef, undef, undef, undef, undef, undef], defers := [] }) ?ownA ?assign ?body ?stop
  case bound => exact fun k W h => ⟨by have := h.le; omega, h.clo⟩
  case own => exact fun k W W' row h hg hr => h.own HWW.out hg hr
  case ownx => exact fun c W W' row h hg hr => ⟨h.1, h.2.own HWW.out hg hr⟩
  case start => exact HBK0.out
  case ownA =>
    rintro a' k W W' row ⟨gb, h, hb, h1, h2, rfl⟩ hg hr
    exact ⟨gb, h.own HWW.out hg hr, hb.own hg hr, h1, h2, rfl⟩
  case assign =>
    intro l k W K hI hK
    have HI := Lib.hid hI
    have HKc := Lib.hid hK
    have HBL' := Lib.hid (show (bytesV (blok key (n + BitVec.ofNat 32 k) nonce)).length = 64 by rw [bytesV_len, blok_len])
    have HO := Lib.hid (fun x hx => bytesV_one (blok key (n + BitVec.ofNat 32 k) nonce) x hx)
    clear hI hK
    generalize bytesV (blok key (n + BitVec.ofNat 32 k) nonce) = ys at *
    refine region_round (by kernel_rfl) (fun _ _ h => h) ?_
    go_simp
    go_wp2_with (refine wpList_store_row _ rfl rfl _ _ 31 rfl W.heap.size 31 (noughts8 64) ys rfl rfl (Row.new W 31 (noughts8 64)) (by rw [HBL'.out]; rfl) HO.out (by rw [HBL'.out]; kernel_rfl) ?_; intro w5 hr5 hg5)
    have hgw : W.grownBy w5 none := grown_own (grown_alloc (grown_refl _ _) _) hg5 (Nat.le_refl _)
    have e1 := HI.out.ar.lt
    have e2 := HI.out.rr.lt
    exact HKc.out _ _ (KeepsFrom.of_grownBy hgw (fun j e => by cases e)) ⟨W.heap.size, HI.out.grown0 hgw, hr5, by omega, by omega, rfl⟩
  case body =>
    rintro l k a' W ⟨gb, hR, hb, h1, h2, rfl⟩
    have HR := Lib.hid hR
    have HB' := Lib.hid hb
    have HNEQ := Lib.hid (And.intro h1 h2)
    obtain ⟨y, hy⟩ : ∃ y, n + BitVec.ofNat 32 k = y := ⟨_, rfl⟩
    have HY := Lib.hid hy
    rw [hy] at HB'
    rw [hy]
    have HBY := Lib.hid (show (bytesV (blok key y nonce)).length = 64 by rw [bytesV_len, blok_len])
    have HKM := Lib.hid hR.le
    clear hR hb h1 h2 hy
    refine wpIn_block ?_
    refine wpIn_seq_k ?_
    intro K1 hK1
    have HK1 := Lib.hid hK1
    clear hK1
    refine wpIn_seq_k ?_
    intro K2 hK2
    have HK2 := Lib.hid hK2
    clear hK2
    refine region_round_walk 9 [] dis_nil (by kernel_rfl) (by kernel_rfl) (by kernel_rfl) (by kernel_rfl) (fun _ _ h => h) ?_
    simp only [List.take_succ_cons, List.take_zero, List.drop_succ_cons, List.drop_zero]
    refine Walk.val (G := Is (.agg (bytesV (blok key y nonce)).toArray)) (stays_is _ _) rfl rfl (fun a w hm hd => ⟨wanted_plain rfl, _, ex_load_row rfl gb 31 _ _ (by rw [hm.outer 12 (by kernel_rfl)]; rfl) (HB'.out.grown0 hm.grow.none2) Try.underlying31 rfl (by rw [HBY.out]; kernel_rfl), rfl⟩) ?_
    refine Walk.val (G := Is (.agg (bytesV key).toArray)) (stays_is _ _) rfl rfl (fun a w hm hd => ⟨wanted_plain rfl, _, ex_load_row rfl G 29 _ _ (by rw [hm.outer 4 (by kernel_rfl)]; rfl) (HR.out.kr.grown0 hm.grow.none2) Try.underlying29 rfl (by rw [HKL.out]; kernel_rfl), rfl⟩) ?_
    refine Walk.val (G := Is (.int .u32 (n.toNat : Int))) (stays_is _ _) rfl rfl (fun a w hm hd => ⟨wanted_plain rfl, _, ex_load32 rfl (by rw [hm.outer 5 (by kernel_rfl)]; rfl) (HR.out.nr.grown0 hm.grow.none2), rfl⟩) ?_
    refine Walk.val (G := Is (.int .i64 (k : Int))) (stays_is _ _) rfl rfl (fun a w hm hd => ⟨wanted_plain rfl, _, ex_loadN rfl (by rw [hm.outer 10 (by kernel_rfl)]; rfl) (HR.out.ar.grown0 hm.grow.none2), rfl⟩) ?_
    refine Walk.val (G := Is (.int .u32 (k : Int))) (stays_is _ _) rfl rfl (fun a w hm hd => ⟨wanted_plain rfl, _, ex_conv3 rfl (hd.at_ 3 rfl rfl rfl rfl) (by have := HKM.out; omega), rfl⟩) ?_
    refine Walk.val (G := Is (.int .u32 (y.toNat : Int))) (stays_is _ _) rfl rfl (fun a w hm hd => ⟨wanted_plain rfl, _, ex_add32 y rfl (hd.at_ 2 rfl rfl rfl rfl) (hd.at_ 4 rfl rfl rfl rfl) HY.out, rfl⟩) ?_
    refine Walk.val (G := Is (.agg (bytesV nonce).toArray)) (stays_is _ _) rfl rfl (fun a w hm hd => ⟨wanted_plain rfl, _, ex_load_row rfl (G + 1 + 1) 30 _ _ (by rw [hm.outer 6 (by kernel_rfl)]; rfl) (HR.out.cr.grown0 hm.grow.none2) Try.underlying30 rfl (by rw [HNL.out]; kernel_rfl), rfl⟩) ?_
    refine Walk.call (G := Is (.agg (bytesV (blok key y nonce)).toArray)) (stays_is _ _) rfl 13 rfl (fun a w hm _ hd => ⟨wanted_plain rfl, _, ex_call3 Try.func13 (by kernel_rfl) (by kernel_rfl) rfl, by
      rw [show a.eval (.tmp 35) = _ from hd.at_ 1 rfl rfl rfl rfl, show a.eval (.tmp 39) = _ from hd.at_ 5 rfl rfl rfl rfl, show a.eval (.tmp 40) = _ from hd.at_ 6 rfl rfl rfl rfl]
      refine (block_any key HK.out y nonce HN.out w).mono ?_
      rintro e w' ⟨rfl, hg⟩
      exact ⟨_, rfl, hg, rfl⟩⟩) ?_
    refine Walk.val (G := Is (.bool false)) (stays_is _ _) rfl rfl (fun a w hm hd => ⟨wanted_plain rfl, _, ex_ne64 (l := blok key y nonce) (blok_len _ _ _) rfl (hd.at_ 0 rfl rfl rfl rfl) (hd.at_ 7 rfl rfl rfl rfl), rfl⟩) ?_
    intro a9 w7 hm7 hall
    have f42 : a9.eval (.tmp 42) = .bool false := hall 8 _ _ rfl rfl
    have hg7 : W.grownBy w7 none := GrownX.none2 hm7.grow
    have hfr := hm7.frame
    simp only [List.take_succ_cons, List.take_zero, List.filterMap_cons, List.filterMap_nil, List.foldl_cons, List.foldl_nil] at hfr
    rw [f42] at hfr
    rw [hfr]
    have HR7 := Lib.hid (HR.out.grown0 hg7)
    have HG7 := Lib.hid hg7
    clear f42 hg7 hfr HR HB' HBY
    generalize a9.eval (.tmp 34) = f34
    generalize a9.eval (.tmp 35) = f35
    generalize a9.eval (.tmp 36) = f36
    generalize a9.eval (.tmp 37) = f37
    generalize a9.eval (.tmp 38) = f38
    generalize a9.eval (.tmp 39) = f39
    generalize a9.eval (.tmp 40) = f40
    generalize a9.eval (.tmp 41) = f41
    clear hm7 hall
    simp only [Act.put, List.setIfInBounds_toArray, List.set_cons_succ, List.set_cons_zero]
    refine HK2.out _ _ ?_
    gi_wp2
    refine HK1.out _ _ ?_
    obtain ⟨k1, hk1⟩ : ∃ k1, k + 1 = k1 := ⟨_, rfl⟩
    have hkk : (k : Int) + 1 = (k1 : Int) := by omega
    have ck := HR7.out.ar.cell (j := 0) rfl
    have fk := HR7.out.ar.frozen 0
    have cm := HR7.out.mr.cell (j := 0) rfl
    have hkb : k ≤ 5 := by have := HKM.out; omega
    refine wpIn_seq_k ?_
    intro K3 hK3
    have HK3 := Lib.hid hK3
    clear hK3
    gi_wp2
    refine HK3.out _ _ ?_
    have ck1 : (w7.setCell ⟨gk, 0, none⟩ (.int .i64 (k1 : Int))).cell? ⟨gk, 0, none⟩ = some (.int .i64 (k1 : Int)) := (HR7.out.ar.set 0 _).cell (j := 0) rfl
    have cm1 : (w7.setCell ⟨gk, 0, none⟩ (.int .i64 (k1 : Int))).cell? ⟨G + 1 + 1 + 1, 0, none⟩ = some (.int .u8 (m : Int)) := (HR7.out.mr.other (by have := HLT.out; omega) _).cell (j := 0) rfl
    have HS := Lib.hid (grown_set w7 gk 0 (.int .i64 (k1 : Int)))
    have HAR := Lib.hid (HR7.out.ar.set 0 (.int .i64 (k1 : Int)))
    clear ck fk cm hkk
    generalize w7.setCell ⟨gk, 0, none⟩ (.int .i64 (k1 : Int)) = w8 at *
    have hMI : (m : Int) % 5 = (M : Int) := by have := HM.out; omega
    have HK1E := Lib.hid hk1
    by_cases hlt : k < M
    · have hdec : decide (M < k1) = false := by simp; omega
      have HLT5 := Lib.hid hlt
      clear hk1 hlt
      gi_wp2
      have hlt5 := HLT5.out
      have hke := HK1E.out
      have hgt := HLT.out
      have hlo := HLO.out
      have hkw := HKW.out
      have hr := HR7.out
      have hs := HS.out
      refine ⟨(KeepsFrom.of_grownBy HG7.out (fun j e => by cases e)).trans (KeepsFrom.of_grownBy hs (fun j e => by cases e; exact hkw)), ?_⟩
      have hb := HBASE.out
      exact ⟨by omega, hr.kr.grown hs (by simp; omega), hr.nr.grown hs (by simp; omega), hr.cr.grown hs (by simp; omega), hr.mr.grown hs (by simp; omega), hr.rr.grown hs (by simp; omega), by rw [hke]; exact HAR.out, hr.clo.grown hs (by omega) (by omega) (by omega), grown_own hr.grow hs hb⟩
    · have hdec : decide (M < k1) = true := by simp; omega
      have HKE := Lib.hid (show k1 = M + 1 by have := HKM.out; omega)
      clear hk1 hlt
      gi_wp2
      have hgt := HLT.out
      have hkw := HKW.out
      have hr := HR7.out
      have hs := HS.out
      have hb := HBASE.out
      refine ⟨(KeepsFrom.of_grownBy HG7.out (fun j e => by cases e)).trans (KeepsFrom.of_grownBy hs (fun j e => by cases e; exact hkw)), rfl, ?_⟩
      exact ⟨hr.mr.grown hs (by simp; omega), hr.rr.grown hs (by simp; omega), by rw [← HKE.out]; exact HAR.out, grown_own hr.grow hs hb⟩
  case stop =>
    rintro D cc W hD ⟨rfl, hX⟩ hdef
    have HX := Lib.hid hX
    have HDEF := Lib.hid hdef
    have HDD := Lib.hid hD
    obtain ⟨k1, hk1⟩ : ∃ k1, M + 1 = k1 := ⟨_, rfl⟩
    have hkk : (M : Int) + 1 = (k1 : Int) := by omega
    have ck := hX.ar.cell (j := 0) rfl
    rw [hk1] at ck
    have cm := hX.mr.cell (j := 0) rfl
    have hMI : (m : Int) % 5 = (M : Int) := by have := HM.out; omega
    clear hX hdef hD hk1
    go_wp2_with (go_at_call 12; refine (awake_any _).mono ?_; rintro e w5 ⟨rfl, hg5⟩; have hrr5 := HX.out.rr.grown0 hg5; have crr := hrr5.cell (j := 0) rfl; have frr := hrr5.frozen 0)
    have hne : D ≠ G + 1 + 1 + 1 + 1 := by have := HDD.out; have := HLT.out; have := HKW.out; omega
    have hd5 : w5.heap[D]? = some (.deferred (some [])) := (hg5.block D (Array.getElem?_eq_some_iff.1 HDEF.out).1 (by simp)).trans HDEF.out
    have hs := grown_set w5 (G + 1 + 1 + 1 + 1) 0 (.bool true)
    have hd6 : (w5.setCell ⟨G + 1 + 1 + 1 + 1, 0, none⟩ (.bool true)).heap[D]? = some (.deferred (some [])) := (hs.block D (Array.getElem?_eq_some_iff.1 hd5).1 (by simp; omega)).trans hd5
    refine ⟨by simp, .inl ⟨_, _, rfl, run_takeDeferred hd6, ?_⟩⟩
    have hr : ∀ r, some D = some r → w9.heap.size ≤ r ∧ ∃ o : Obj, (w5.setCell ⟨G + 1 + 1 + 1 + 1, 0, none⟩ (.bool true)).heap[r]? = some o ∧ o.isCells = false := fun r e => by cases e; exact ⟨HDD.out, _, hd6, rfl⟩
    have hrow := (hrr5.set 0 (.bool true)).own (grownBy_putObj' _ D (.deferred none)) hr
    have hgr : w.grownBy (w5.setCell ⟨G + 1 + 1 + 1 + 1, 0, none⟩ (.bool true)) none := grown_own (HX.out.grow.trans hg5) hs (by have := HG.out; omega)
    refine ⟨.bool true, ?_, rfl, grown_ownFrom hgr HWW.out (grownBy_putObj' _ D _) hr⟩
    exact results_bool Try.results4 (G + 1 + 1 + 1 + 1) rfl hrow
end Go.Proofs.Ytmhpnddelebjdaa
