/-
  The document's own Block over this program.
-/
import Derived.Test.YtmhcfbfdbminnaaDoorRefSmall
import Derived.Test.YtmhcfbfdbminnaaDoorRefPrimes
import Derived.Test.YtmhcfbfdbminnaaDoorRefTimes
import Derived.Test.YtmhcfbfdbminnaaDoorDigBlock
import Derived.Test.YtmhcfbfdbminnaaDoorReg2Base
import Derived.Deep.RegionLaw
namespace Go.Proofs.YtmhcfbfdbminnaaDoor
open Go.RowKit

theorem GrownX.none2 {w w' : World} (h : GrownX [] w.drew w') : w.grownBy w' Option.none := ⟨h.os, h.tape, h.output, h.size, fun k hk _ => h.block k hk (by simp)⟩
section
variable {o : Oper} {a : Act} {w : World}
theorem ex_addn {x y : Operand} {p q : Nat} (h : o.op = .binOp .add 3 x y 3) (hx : Is (.int .i64 (p : Int)) (a.eval x) w) (hy : Is (.int .i64 (q : Int)) (a.eval y) w) (hb : p + q ≤ 1000000000000000) : (execOp a.eval o).run Tryd.prog w = .ok (.value (.int .i64 ((p + q : Nat) : Int))) w := by
  have hx' : a.eval x = .int .i64 (p : Int) := hx
  have hy' : a.eval y = .int .i64 (q : Int) := hy
  have hw : IntKind.i64.wrap ((p : Int) + (q : Int)) = ((p + q : Nat) : Int) := by rw [IntKind.wrap_i64]; omega
  simp only [execOp, h, hx', hy']
  simp [go_sem, hw]
theorem ex_notn {x : Operand} {e : W32} (h : o.op = .binOp .sub 3 (.const (.int .i64 4294967295)) x 3) (hx : Is (.int .i64 (e.toNat : Int)) (a.eval x) w) : (execOp a.eval o).run Tryd.prog w = .ok (.value (.int .i64 ((~~~ e).toNat : Int))) w := by
  have hx' : a.eval x = .int .i64 (e.toNat : Int) := hx
  have hc : a.eval (.const (.int .i64 4294967295)) = .int .i64 4294967295 := rfl
  have hb := e.isLt
  have hn : (~~~ e).toNat = 4294967295 - e.toNat := by rw [BitVec.toNat_not]
  have hw : IntKind.i64.wrap (4294967295 - (e.toNat : Int)) = ((~~~ e).toNat : Int) := by rw [IntKind.wrap_i64, hn]; omega
  simp only [execOp, h, hx', hc]
  simp only [go_sem, hw]
  simp
theorem ex_idx {x y : Operand} {ad : Addr} {n c k : Nat} (h : o.op = .indexAddr 53 x y) (hx : a.eval x = .slice (some ad) n c) (hy : a.eval y = .int .i64 (k : Int)) (hk : k < n) : (execOp a.eval o).run Tryd.prog w = .ok (.value (.pointer (some (ad.add k)))) w := by
  have hk' : (k : Int) < (n : Int) := by omega
  simp only [execOp, h, hx, hy]
  simp [go_sem, hk']
theorem ex_loadI {x : Operand} {ad : Addr} {z : Int} (h : o.op = .load 3 x) (hx : a.eval x = .pointer (some ad)) (hc : w.cell? ad = some (.int .i64 z)) : (execOp a.eval o).run Tryd.prog w = .ok (.value (.int .i64 z)) w := by
  simp only [execOp, h, hx]
  simp [go_sem, hc]
end
section
variable {o : Oper} {a : Act} {w : World}
theorem ex_mul4 {x : Operand} {k : Nat} (h : o.op = .binOp .mul 3 (.const (.int .i64 4)) x 3) (hx : Is (.int .i64 (k : Int)) (a.eval x) w) (hk : k ≤ 1000) : (execOp a.eval o).run Tryd.prog w = .ok (.value (.int .i64 ((4 * k : Nat) : Int))) w := by
  have hx' : a.eval x = .int .i64 (k : Int) := hx
  have hc : a.eval (.const (.int .i64 4)) = .int .i64 4 := rfl
  have hw : IntKind.i64.wrap (4 * (k : Int)) = ((4 * k : Nat) : Int) := by rw [IntKind.wrap_i64]; omega
  simp only [execOp, h, hx', hc]
  simp [go_sem, hw]
theorem ex_addc {x : Operand} {k : Nat} (d : Nat) {e : Int} (he : e = (d : Int)) (h : o.op = .binOp .add 3 x (.const (.int .i64 e)) 3) (hx : Is (.int .i64 (k : Int)) (a.eval x) w) (hk : k + d ≤ 1000000) : (execOp a.eval o).run Tryd.prog w = .ok (.value (.int .i64 ((k + d : Nat) : Int))) w := by
  have hx' : a.eval x = .int .i64 (k : Int) := hx
  have hc : a.eval (.const (.int .i64 e)) = .int .i64 e := rfl
  have hw : IntKind.i64.wrap ((k : Int) + e) = ((k + d : Nat) : Int) := by rw [IntKind.wrap_i64]; omega
  simp only [execOp, h, hx', hc]
  simp [go_sem, hw]
theorem ex_mul256 {x : Operand} {k : Nat} (h : o.op = .binOp .mul 3 x (.const (.int .i64 256)) 3) (hx : Is (.int .i64 (k : Int)) (a.eval x) w) (hk : k ≤ 1000000000000) : (execOp a.eval o).run Tryd.prog w = .ok (.value (.int .i64 ((k * 256 : Nat) : Int))) w := by
  have hx' : a.eval x = .int .i64 (k : Int) := hx
  have hc : a.eval (.const (.int .i64 256)) = .int .i64 256 := rfl
  have hw : IntKind.i64.wrap ((k : Int) * 256) = ((k * 256 : Nat) : Int) := by rw [IntKind.wrap_i64]; omega
  simp only [execOp, h, hx', hc]
  simp [go_sem, hw]
theorem ex_idxB {x y : Operand} {ad : Addr} {n c k : Nat} (h : o.op = .indexAddr 22 x y) (hx : a.eval x = .slice (some ad) n c) (hy : a.eval y = .int .i64 (k : Int)) (hk : k < n) : (execOp a.eval o).run Tryd.prog w = .ok (.value (.pointer (some (ad.add k)))) w := by
  have hk' : (k : Int) < (n : Int) := by omega
  simp only [execOp, h, hx, hy]
  simp [go_sem, hk']
theorem ex_loadB {x : Operand} {ad : Addr} {z : Int} (h : o.op = .load 5 x) (hx : a.eval x = .pointer (some ad)) (hc : w.cell? ad = some (.int .u8 z)) : (execOp a.eval o).run Tryd.prog w = .ok (.value (.int .u8 z)) w := by
  simp only [execOp, h, hx]
  simp [go_sem, hc]
theorem ex_convB {x : Operand} {z : Nat} (h : o.op = .convert 5 3 x) (hx : Is (.int .u8 (z : Int)) (a.eval x) w) (hz : z < 256) : (execOp a.eval o).run Tryd.prog w = .ok (.value (.int .i64 (z : Int))) w := by
  have hx' : a.eval x = .int .u8 (z : Int) := hx
  have hw : IntKind.i64.wrap (z : Int) = (z : Int) := by rw [IntKind.wrap_i64]; omega
  simp only [execOp, h, hx']
  simp [go_sem, hw]
theorem ex_build1 {x : Operand} {z : Nat} (h : o.op = .buildSlice 53 1 #[(0, x)]) (hx : Is (.int .i64 (z : Int)) (a.eval x) w) : (execOp a.eval o).run Tryd.prog w = .ok (.value (.slice (some ⟨w.heap.size, 0, none⟩) 1 1)) (w.alloc (.cells #[.int .i64 (z : Int)] 3)) := by
  have hx' : a.eval x = .int .i64 (z : Int) := hx
  simp only [execOp, h, hx', List.map_toArray, List.map_cons, List.map_nil]
  go_simp
  try rfl
end
section
variable {P : Program} {ops : Array Oper} {Q : Exit → Act → World → Prop} {n : Nat} {eff : List (Nat × Nat)} {w0 : World} {a0 : Act} {tail : List Oper}
/-- An operation with a value that makes or turns memory. -/
theorem Walk.act {env : List (Value → World → Prop)} {k : Nat} {o : Oper} {rest : List Oper} {G : Value → World → Prop} (hl : StaysBut eff k G) (ho : ops[k]? = some o) (hdst : o.dst.isSome = true)
    (hs : ∀ a w, Mid2 ops n eff w0 a0 a w → Ahead eff k w0 w → Deps2 ops env.reverse o a w → Wanted ops o a ∧ ∃ v w', (execOp a.eval o).run P w = .ok (.value v) w' ∧ w.grownBy w' (rowAt eff k) ∧ G v w')
    (hc : Walk P ops Q n eff w0 a0 tail (k + 1) rest (G :: env)) : Walk P ops Q n eff w0 a0 tail k (o :: rest) env := by
  refine ⟨G, hl, fun a w hm ha hd => ?_, hc⟩
  obtain ⟨hw, v, w', hr, hg, hG⟩ := hs a w hm ha hd
  unfold wpOp
  rw [ho]
  simp only
  rw [if_pos (show Region.wanted o (yielded ops a.tmps) = true from hw)]
  refine .inl ?_
  unfold Oper.wp
  rw [hr, Oper.upon_value]
  exact ⟨v, rfl, hg, hG, fun h => by rw [h] at hdst; cases hdst⟩
end
/-- The one block that operation q may turn: the row's own. -/
theorem eff_of (q : Nat) (u : Value) : ∃ E : List (Nat × Nat), (∀ i j g, rowAt E i = some g → rowAt E j = some g → i = j) ∧ (∀ i, i ≠ q → rowAt E i = none) ∧ rowAt E q = u.ownBlock ∧ ∀ x ∈ E.map (·.2), u.ownBlock = some x := by
  cases hu : u.ownBlock with
  | none => exact ⟨[], dis_nil, fun _ _ => rfl, rfl, fun x hx => by simp at hx⟩
  | some g =>
    refine ⟨[(q, g)], dis_one q g, fun i hi => ?_, ?_, fun x hx => by simp at hx; rw [hx]⟩
    · simp [rowAt]; omega
    · simp [rowAt]
theorem I64.grows {n : Nat} {w : World} {f : FuncId} {args : Array Value} (h : Calls Tryd.prog f args w (I64 n w)) : Calls Tryd.prog f args w fun e w' => ∃ v, e = .returned v ∧ w.grownBy w' (rowAt [] 0) ∧ Is (.int .i64 (n : Int)) v w' :=
  h.mono fun _ _ ⟨he, hw⟩ => ⟨_, he, by rw [hw]; exact grown_refl _ _, rfl⟩

def ax (a b : W32) : W32 := a + b
def xx (a b : W32) : W32 := a ^^^ b
def aa (a b : W32) : W32 := a &&& b
def shx (n : Nat) (x : W32) : W32 := x >>> n
theorem refXorO (a b : W32) (w : World) : Calls Tryd.prog 36 #[.int .i64 (a.toNat : Int), .int .i64 (b.toNat : Int)] w (I64 (xx a b).toNat w) := refXor_any a b w
theorem refAndO (a b : W32) (w : World) : Calls Tryd.prog 40 #[.int .i64 (a.toNat : Int), .int .i64 (b.toNat : Int)] w (I64 (aa a b).toNat w) := refAnd_any a b w
theorem ch_xor (e f g : W32) : (e &&& f) ^^^ (~~~ e &&& g) = ch e f g := by
  unfold ch
  ext i hi
  simp only [BitVec.getElem_xor, BitVec.getElem_or, BitVec.getElem_and, BitVec.getElem_not]
  cases e[i] <;> simp
theorem tt_nat (a b c d e f g h k x : W32) : (h.toNat + (rr 6 e ^^^ rr 11 e ^^^ rr 25 e).toNat + ((e &&& f) ^^^ (~~~ e &&& g)).toNat + k.toNat + x.toNat) % 4294967296 = (tt ⟨a, b, c, d, e, f, g, h⟩ k x).toNat := by
  rw [ch_xor]
  show _ = (h + big1 e + ch e f g + k + x).toNat
  rw [BitVec.toNat_add, BitVec.toNat_add, BitVec.toNat_add, BitVec.toNat_add]
  unfold big1
  omega
theorem uu_nat (a b c d e f g h : W32) : ((rr 2 a ^^^ rr 13 a ^^^ rr 22 a).toNat + ((a &&& b) ^^^ (a &&& c) ^^^ (b &&& c)).toNat) % 4294967296 = (uu ⟨a, b, c, d, e, f, g, h⟩).toNat := by
  show _ = (big0 a + maj a b c).toNat
  rw [BitVec.toNat_add]
  unfold big0 maj
  omega
theorem kAt_fin : ∀ i : Fin 64, kN.getD i.val 0 = (kAt i.val).toNat := by decide
theorem kAt_nat (i : Nat) (h : i < 64) : kN.getD i 0 = (kAt i).toNat := kAt_fin ⟨i, h⟩
def wn (l : List W32) : List Nat := l.map BitVec.toNat
theorem wn_len (l : List W32) : (wn l).length = l.length := by simp [wn]
theorem wn_at (l : List W32) (k : Nat) (h : k < l.length) : (wn l).getD k 0 = (l.getD k 0).toNat := by simp [wn, List.getElem?_eq_getElem h]
theorem zip_getD (s n : List W32) (q : Nat) (h1 : q < s.length) (h2 : q < n.length) : (List.zipWith (· + ·) s n).getD q 0 = s.getD q 0 + n.getD q 0 := by
  simp only [List.getD_eq_getElem?_getD, List.getElem?_zipWith, List.getElem?_eq_getElem h1, List.getElem?_eq_getElem h2, Option.getD_some]
theorem wn_take_succ (l : List W32) (q : Nat) (h : q < l.length) : wn (l.take (q + 1)) = wn (l.take q) ++ [(l.getD q 0).toNat] := by
  unfold wn
  rw [List.take_succ_eq_append_getElem h, List.map_append]
  simp only [List.map_cons, List.map_nil, List.getD_eq_getElem?_getD, List.getElem?_eq_getElem h, Option.getD_some]
theorem be4_nat (b : List UInt8) (i : Nat) : (be4 b i).toNat = be4N b i := by
  unfold be4
  rw [BitVec.toNat_ofNat]
  unfold be4N
  have b0 := UInt8.toNat_lt (b.getD (4 * i) 0)
  have b1 := UInt8.toNat_lt (b.getD (4 * i + 1) 0)
  have b2 := UInt8.toNat_lt (b.getD (4 * i + 2) 0)
  have b3 := UInt8.toNat_lt (b.getD (4 * i + 3) 0)
  omega

set_option maxRecDepth 100000 in
set_option maxHeartbeats 8000000 in
theorem refBlock_any (v0 v1 v2 : Value) (s : List W32) (hs : s.length = 8) (b : List UInt8) (hb : b.length = 64) (w : World) (h0 : Rd w v0 (intsV (wn s))) (h1 : Rd w v1 (bytesV b)) (h2 : Rd w v2 (intsV kN)) :
    Calls Tryd.prog 31 #[v0, v1, v2] w (OutI w (wn (blk s b))) := by
  have HS := Lib.hid hs
  have HB := Lib.hid hb
  have e0 : (intsV (wn s)).length = 8 := by rw [intsV_len, wn_len, hs]
  have e1 : (bytesV b).length = 64 := by rw [bytesV_len, hb]
  have e2 : (intsV kN).length = 64 := rfl
  obtain ⟨A0, c0, rfl⟩ := h0.form
  obtain ⟨A1, c1, rfl⟩ := h1.form
  obtain ⟨A2, c2, rfl⟩ := h2.form
  rw [e0] at h0 ⊢
  rw [e1] at h1 ⊢
  rw [e2] at h2 ⊢
  have H0 := Lib.hid h0
  have H1 := Lib.hid h1
  have H2 := Lib.hid h2
  have hc0 := h0.len.2
  have hc1 := h1.len.2
  have hc2 := h2.len.2
  unfold maxLen at hc0 hc1 hc2
  clear h0 h1 h2 hs hb e0 e1 e2
  go_enter Tryd.func31, Tryd.ntmps31
  go_wp2
  go_loopw [7, 8] (fun u i W => ∃ k : Nat, k ≤ 16 ∧ i = .int .i64 k ∧ W.ownsRow w.heap.size 3 1 u k (intsV (wn (firsts b k))) ∧ w.grownBy W none) (fun _ i _ => 16 - (intOf i).toNat)
  case atStart => exact ⟨0, Nat.zero_le _, rfl, World.ownsRow_nil _ _ _ _, grown_refl _ _⟩
  case round =>
    obtain ⟨k, hk, rfl, ho, hg⟩ := hrel
    have HO := Lib.hid ho
    have HG := Lib.hid hg
    clear ho hg
    by_cases hlt : k < 16
    · obtain ⟨ad, rfl, hcl⟩ := (H1.out.grown0 HG.out).cells (by intro e; have := congrArg List.length e; rw [bytesV_len, HB.out] at this; simp at this)
      have at_ : ∀ j, j < 64 → wr.cell? (ad.add j) = some (.int .u8 ((b.getD j 0).toNat : Int)) := fun j hj => hcl j _ (by
        have := HB.out
        simp [bytesV, byteV, List.getElem?_eq_getElem (show j < b.length by omega)])
      have y0 := at_ (4 * k) (by omega)
      have y1 := at_ (4 * k + 1) (by omega)
      have y2 := at_ (4 * k + 2) (by omega)
      have y3 := at_ (4 * k + 3) (by omega)
      have hbe : be4N b k = (((b.getD (4 * k) 0).toNat * 256 + (b.getD (4 * k + 1) 0).toNat) * 256 + (b.getD (4 * k + 2) 0).toNat) * 256 + (b.getD (4 * k + 3) 0).toNat := rfl
      have b0 := UInt8.toNat_lt (b.getD (4 * k) 0)
      have b1 := UInt8.toNat_lt (b.getD (4 * k + 1) 0)
      have b2 := UInt8.toNat_lt (b.getD (4 * k + 2) 0)
      have b3 := UInt8.toNat_lt (b.getD (4 * k + 3) 0)
      generalize (b.getD (4 * k) 0).toNat = z0 at *
      generalize (b.getD (4 * k + 1) 0).toNat = z1 at *
      generalize (b.getD (4 * k + 2) 0).toNat = z2 at *
      generalize (b.getD (4 * k + 3) 0).toNat = z3 at *
      have hbi : (((z0 : Int) * 256 + (z1 : Int)) * 256 + (z2 : Int)) * 256 + (z3 : Int) = ((be4 b k).toNat : Int) := by rw [be4_nat, hbe]; omega
      have HBI := Lib.hid hbi
      have hfs : wn (firsts b (k + 1)) = wn (firsts b k) ++ [(be4 b k).toNat] := by rw [firsts_succ]; simp [wn]
      have HFS := Lib.hid hfs
      generalize (be4 b k).toNat = N at *
      have HSZ := Lib.hid HG.out.size
      have hrdN : ∀ W : World, Rd (W.alloc (.cells #[.int .i64 ((((z0 : Int) * 256 + (z1 : Int)) * 256 + (z2 : Int)) * 256 + (z3 : Int))] 3)).drew (.slice (some ⟨W.heap.size, 0, none⟩) 1 1) (intsV [N]) := fun W => by rw [HBI.out]; exact Rd.int1 W N
      have HRDN := Lib.hid hrdN
      have hszs : ∀ o : Obj, w.heap.size ≤ (wr.alloc o).drew.heap.size := fun o => by have := HSZ.out; show _ ≤ (wr.alloc o).heap.size; simp; omega
      have HSZS := Lib.hid hszs
      have hown : ∀ o : Obj, (wr.alloc o).drew.ownsRow w.heap.size 3 1 u7 k (intsV (wn (firsts b k))) := fun o => HO.out.alloc o
      have HOWN := Lib.hid hown
      have HKL := Lib.hid (show k + [N].length ≤ 1000000 by simp; omega)
      obtain ⟨E, hE⟩ := eff_of 35 u7
      have HE := Lib.hid hE
      have HZB := Lib.hid (And.intro b0 (And.intro b1 (And.intro b2 b3)))
      have HK16 := Lib.hid (show k ≤ 1000 by omega)
      have HK16B := Lib.hid hlt
      have HBN := Lib.hid (show (((z0 * 256 + z1) * 256 + z2) * 256 + z3 : Nat) = N by omega)
      have hadlt : ad.block < w.heap.size := by
        obtain ⟨ad', he', hc'⟩ := H1.out.cells (by intro e; have := congrArg List.length e; rw [bytesV_len, HB.out] at this; simp at this)
        cases he'
        have hb' := HB.out
        have := World.block_lt_of_cell? w _ (hc' 0 (.int .u8 ((b.getD 0 0).toNat : Int)) (by simp [bytesV, byteV, List.getElem?_eq_getElem (show 0 < b.length by omega)]))
        rw [add_block] at this
        exact this
      have keep : ∀ (W : World) j u, GrownX (E.map (·.2)) wr.drew W → wr.cell? (ad.add j) = some u → W.cell? (ad.add j) = some u := fun W j u hg hc => by
        rw [← hc]
        refine World.cell?_of_block ?_
        rw [add_block]
        refine hg.block _ (by have := World.block_lt_of_cell? wr _ hc; rw [add_block] at this; exact this) (fun hx => ?_)
        have h1 := HE.out.2.2.2 _ hx
        have h2 := (HO.out.lt _ h1).1
        omega
      have HLD := Lib.hid (And.intro (fun (W : World) (hg : GrownX (E.map (·.2)) wr.drew W) => keep W (4 * k) _ hg y0) (And.intro (fun (W : World) (hg : GrownX (E.map (·.2)) wr.drew W) => keep W (4 * k + 1) _ hg y1) (And.intro (fun (W : World) (hg : GrownX (E.map (·.2)) wr.drew W) => keep W (4 * k + 2) _ hg y2) (fun (W : World) (hg : GrownX (E.map (·.2)) wr.drew W) => keep W (4 * k + 3) _ hg y3))))
      clear hbe hbi hfs hrdN hszs hown at_ hcl keep hadlt y0 y1 y2 y3 hE HBI HRDN HSZS HOWN HKL
      go_wp2
      refine wp_region_walk 36 E HE.out.1 (by kernel_rfl) (by kernel_rfl) (by kernel_rfl) ?_
      simp only [List.take_succ_cons, List.take_zero, List.drop_succ_cons, List.drop_zero]
      refine Walk.val (G := Is u7) (stays_is _ _) rfl rfl (fun a w hm hd => ⟨wanted_plain rfl, _, ex_move rfl, (by rw [hm.outer 7 (by kernel_rfl)]; exact rfl)⟩) ?_
      refine Walk.val (G := Is (.slice (some ad) 64 c1)) (stays_is _ _) rfl rfl (fun a w hm hd => ⟨wanted_plain rfl, _, ex_move rfl, (by rw [hm.outer 1 (by kernel_rfl)]; exact rfl)⟩) ?_
      refine Walk.val (G := Is (.int .i64 ((k : Nat) : Int))) (stays_is _ _) rfl rfl (fun a w hm hd => ⟨wanted_plain rfl, _, ex_move rfl, (by rw [hm.outer 8 (by kernel_rfl)]; exact rfl)⟩) ?_
      refine Walk.val (G := Is (.int .i64 ((4 * k : Nat) : Int))) (stays_is _ _) rfl rfl (fun a w hm hd => ⟨wanted_plain rfl, _, ex_mul4 rfl (hd.at_ 2 rfl rfl rfl rfl) HK16.out, rfl⟩) ?_
      refine Walk.val (G := Is (.pointer (some (ad.add (4 * k))))) (stays_is _ _) rfl rfl (fun a w hm hd => ⟨wanted_plain rfl, _, ex_idxB rfl (hd.at_ 1 rfl rfl rfl rfl) (hd.at_ 3 rfl rfl rfl rfl) (by have := HK16B.out; omega), rfl⟩) ?_
      refine Walk.val (G := Is (.int .u8 ((z0 : Nat) : Int))) (stays_is _ _) rfl rfl (fun a w hm hd => ⟨wanted_plain rfl, _, ex_loadB rfl (hd.at_ 4 rfl rfl rfl rfl) (HLD.out.1 w hm.grow), rfl⟩) ?_
      refine Walk.val (G := Is (.int .i64 ((z0 : Nat) : Int))) (stays_is _ _) rfl rfl (fun a w hm hd => ⟨wanted_plain rfl, _, ex_convB rfl (hd.at_ 5 rfl rfl rfl rfl) (by have := HZB.out; omega), rfl⟩) ?_
      refine Walk.val (G := Is (.int .i64 ((z0 * 256 : Nat) : Int))) (stays_is _ _) rfl rfl (fun a w hm hd => ⟨wanted_plain rfl, _, ex_mul256 rfl (hd.at_ 6 rfl rfl rfl rfl) (by have := HZB.out; omega), rfl⟩) ?_
      refine Walk.val (G := Is (.slice (some ad) 64 c1)) (stays_is _ _) rfl rfl (fun a w hm hd => ⟨wanted_plain rfl, _, ex_move rfl, (by rw [hm.outer 1 (by kernel_rfl)]; exact rfl)⟩) ?_
      refine Walk.val (G := Is (.int .i64 ((k : Nat) : Int))) (stays_is _ _) rfl rfl (fun a w hm hd => ⟨wanted_plain rfl, _, ex_move rfl, (by rw [hm.outer 8 (by kernel_rfl)]; exact rfl)⟩) ?_
      refine Walk.val (G := Is (.int .i64 ((4 * k : Nat) : Int))) (stays_is _ _) rfl rfl (fun a w hm hd => ⟨wanted_plain rfl, _, ex_mul4 rfl (hd.at_ 9 rfl rfl rfl rfl) HK16.out, rfl⟩) ?_
      refine Walk.val (G := Is (.int .i64 ((4 * k + 1 : Nat) : Int))) (stays_is _ _) rfl rfl (fun a w hm hd => ⟨wanted_plain rfl, _, ex_addc 1 rfl rfl (hd.at_ 10 rfl rfl rfl rfl) (by have := HK16.out; omega), rfl⟩) ?_
      refine Walk.val (G := Is (.pointer (some (ad.add (4 * k + 1))))) (stays_is _ _) rfl rfl (fun a w hm hd => ⟨wanted_plain rfl, _, ex_idxB rfl (hd.at_ 8 rfl rfl rfl rfl) (hd.at_ 11 rfl rfl rfl rfl) (by have := HK16B.out; omega), rfl⟩) ?_
      refine Walk.val (G := Is (.int .u8 ((z1 : Nat) : Int))) (stays_is _ _) rfl rfl (fun a w hm hd => ⟨wanted_plain rfl, _, ex_loadB rfl (hd.at_ 12 rfl rfl rfl rfl) (HLD.out.2.1 w hm.grow), rfl⟩) ?_
      refine Walk.val (G := Is (.int .i64 ((z1 : Nat) : Int))) (stays_is _ _) rfl rfl (fun a w hm hd => ⟨wanted_plain rfl, _, ex_convB rfl (hd.at_ 13 rfl rfl rfl rfl) (by have := HZB.out; omega), rfl⟩) ?_
      refine Walk.val (G := Is (.int .i64 ((z0 * 256 + z1 : Nat) : Int))) (stays_is _ _) rfl rfl (fun a w hm hd => ⟨wanted_plain rfl, _, ex_addn rfl (hd.at_ 7 rfl rfl rfl rfl) (hd.at_ 14 rfl rfl rfl rfl) (by have := HZB.out; omega), rfl⟩) ?_
      refine Walk.val (G := Is (.int .i64 (((z0 * 256 + z1) * 256 : Nat) : Int))) (stays_is _ _) rfl rfl (fun a w hm hd => ⟨wanted_plain rfl, _, ex_mul256 rfl (hd.at_ 15 rfl rfl rfl rfl) (by have := HZB.out; omega), rfl⟩) ?_
      refine Walk.val (G := Is (.slice (some ad) 64 c1)) (stays_is _ _) rfl rfl (fun a w hm hd => ⟨wanted_plain rfl, _, ex_move rfl, (by rw [hm.outer 1 (by kernel_rfl)]; exact rfl)⟩) ?_
      refine Walk.val (G := Is (.int .i64 ((k : Nat) : Int))) (stays_is _ _) rfl rfl (fun a w hm hd => ⟨wanted_plain rfl, _, ex_move rfl, (by rw [hm.outer 8 (by kernel_rfl)]; exact rfl)⟩) ?_
      refine Walk.val (G := Is (.int .i64 ((4 * k : Nat) : Int))) (stays_is _ _) rfl rfl (fun a w hm hd => ⟨wanted_plain rfl, _, ex_mul4 rfl (hd.at_ 18 rfl rfl rfl rfl) HK16.out, rfl⟩) ?_
      refine Walk.val (G := Is (.int .i64 ((4 * k + 2 : Nat) : Int))) (stays_is _ _) rfl rfl (fun a w hm hd => ⟨wanted_plain rfl, _, ex_addc 2 rfl rfl (hd.at_ 19 rfl rfl rfl rfl) (by have := HK16.out; omega), rfl⟩) ?_
      refine Walk.val (G := Is (.pointer (some (ad.add (4 * k + 2))))) (stays_is _ _) rfl rfl (fun a w hm hd => ⟨wanted_plain rfl, _, ex_idxB rfl (hd.at_ 17 rfl rfl rfl rfl) (hd.at_ 20 rfl rfl rfl rfl) (by have := HK16B.out; omega), rfl⟩) ?_
      refine Walk.val (G := Is (.int .u8 ((z2 : Nat) : Int))) (stays_is _ _) rfl rfl (fun a w hm hd => ⟨wanted_plain rfl, _, ex_loadB rfl (hd.at_ 21 rfl rfl rfl rfl) (HLD.out.2.2.1 w hm.grow), rfl⟩) ?_
      refine Walk.val (G := Is (.int .i64 ((z2 : Nat) : Int))) (stays_is _ _) rfl rfl (fun a w hm hd => ⟨wanted_plain rfl, _, ex_convB rfl (hd.at_ 22 rfl rfl rfl rfl) (by have := HZB.out; omega), rfl⟩) ?_
      refine Walk.val (G := Is (.int .i64 (((z0 * 256 + z1) * 256 + z2 : Nat) : Int))) (stays_is _ _) rfl rfl (fun a w hm hd => ⟨wanted_plain rfl, _, ex_addn rfl (hd.at_ 16 rfl rfl rfl rfl) (hd.at_ 23 rfl rfl rfl rfl) (by have := HZB.out; omega), rfl⟩) ?_
      refine Walk.val (G := Is (.int .i64 ((((z0 * 256 + z1) * 256 + z2) * 256 : Nat) : Int))) (stays_is _ _) rfl rfl (fun a w hm hd => ⟨wanted_plain rfl, _, ex_mul256 rfl (hd.at_ 24 rfl rfl rfl rfl) (by have := HZB.out; omega), rfl⟩) ?_
      refine Walk.val (G := Is (.slice (some ad) 64 c1)) (stays_is _ _) rfl rfl (fun a w hm hd => ⟨wanted_plain rfl, _, ex_move rfl, (by rw [hm.outer 1 (by kernel_rfl)]; exact rfl)⟩) ?_
      refine Walk.val (G := Is (.int .i64 ((k : Nat) : Int))) (stays_is _ _) rfl rfl (fun a w hm hd => ⟨wanted_plain rfl, _, ex_move rfl, (by rw [hm.outer 8 (by kernel_rfl)]; exact rfl)⟩) ?_
      refine Walk.val (G := Is (.int .i64 ((4 * k : Nat) : Int))) (stays_is _ _) rfl rfl (fun a w hm hd => ⟨wanted_plain rfl, _, ex_mul4 rfl (hd.at_ 27 rfl rfl rfl rfl) HK16.out, rfl⟩) ?_
      refine Walk.val (G := Is (.int .i64 ((4 * k + 3 : Nat) : Int))) (stays_is _ _) rfl rfl (fun a w hm hd => ⟨wanted_plain rfl, _, ex_addc 3 rfl rfl (hd.at_ 28 rfl rfl rfl rfl) (by have := HK16.out; omega), rfl⟩) ?_
      refine Walk.val (G := Is (.pointer (some (ad.add (4 * k + 3))))) (stays_is _ _) rfl rfl (fun a w hm hd => ⟨wanted_plain rfl, _, ex_idxB rfl (hd.at_ 26 rfl rfl rfl rfl) (hd.at_ 29 rfl rfl rfl rfl) (by have := HK16B.out; omega), rfl⟩) ?_
      refine Walk.val (G := Is (.int .u8 ((z3 : Nat) : Int))) (stays_is _ _) rfl rfl (fun a w hm hd => ⟨wanted_plain rfl, _, ex_loadB rfl (hd.at_ 30 rfl rfl rfl rfl) (HLD.out.2.2.2 w hm.grow), rfl⟩) ?_
      refine Walk.val (G := Is (.int .i64 ((z3 : Nat) : Int))) (stays_is _ _) rfl rfl (fun a w hm hd => ⟨wanted_plain rfl, _, ex_convB rfl (hd.at_ 31 rfl rfl rfl rfl) (by have := HZB.out; omega), rfl⟩) ?_
      refine Walk.val (G := Is (.int .i64 ((((z0 * 256 + z1) * 256 + z2) * 256 + z3 : Nat) : Int))) (stays_is _ _) rfl rfl (fun a w hm hd => ⟨wanted_plain rfl, _, ex_addn rfl (hd.at_ 25 rfl rfl rfl rfl) (hd.at_ 32 rfl rfl rfl rfl) (by have := HZB.out; omega), rfl⟩) ?_
      refine Walk.act (G := fun v W => Rd W v (intsV [N]) ∧ ∀ b, v.ownBlock = some b → wr.heap.size ≤ b) (fun i hi v W W' hG hg => ⟨hG.1.grown hg (fun b hb e => by
        by_cases h35 : i = 35
        · subst h35
          have h1 := HE.out.2.2.1
          rw [h1] at e
          have h2 := (HO.out.lt b e.symm).2
          have h3 := hG.2 b hb
          omega
        · rw [HE.out.2.1 i h35] at e
          cases e), hG.2⟩) rfl rfl (fun a w hm _ hd => ⟨wanted_plain rfl, _, _, ex_build1 (z := N) rfl (by rw [← HBN.out]; exact (hd.at_ 33 rfl rfl rfl rfl)), by rw [HE.out.2.1 34 (by decide)]; exact grown_alloc (grown_refl _ _) _, Rd.int1 w N, fun b hb => by simp only [Value.ownBlock, Option.some.injEq] at hb; have := hm.grow.size; rw [← hb]; exact this⟩) ?_
      refine Walk.act (G := fun v W => W.ownsRow w.heap.size 3 1 v (k + [N].length) (intsV (wn (firsts b k)) ++ intsV [N]) ∧ w.grownBy W none) (fun i hi v W W' hG hg => by
        rw [HE.out.2.1 i hi] at hg
        exact ⟨hG.1.kept hg (by cases v.ownBlock <;> simp), hG.2.trans hg⟩) rfl rfl (fun a W hm hah hd => by
        have e32 : a.eval (.tmp 32) = u7 := hd.at_ 0 rfl rfl rfl rfl
        have h66 := hd.at_ (G := fun v W => Rd W v (intsV [N]) ∧ ∀ b, v.ownBlock = some b → wr.heap.size ≤ b) 34 rfl rfl rfl rfl
        have hgn : wr.grownBy W none := ⟨hm.grow.os, hm.grow.tape, hm.grow.output, hm.grow.size, fun b hb _ => by
          by_cases hx : b ∈ E.map (·.2)
          · exact hah b (by rw [HE.out.2.2.1]; exact HE.out.2.2.2 b hx) hb
          · exact hm.grow.block b hb hx⟩
        have hown := HO.out.kept hgn (by cases u7.ownBlock <;> simp)
        have hgw := HG.out.trans hgn
        obtain ⟨i3, hi3, hz3, hs3, hb3⟩ := infoInt
        obtain ⟨v', w', hrun, h2, h3, h4⟩ := run_append_rd (P := Tryd.prog) W w.heap.size 53 53 3 i3 (.int .i64 0) 8 Tryd.underlying53 hi3 hz3 hs3 hb3 rfl u7 k _ hown _ (intsV [N]) h66.1 (intsV_one _) (by have := HK16.out; simp [intsV]; omega) (by have := HK16.out; simp [intsV]; omega) hgw.size
        rw [intsV_len] at h2
        refine ⟨wanted_plain rfl, v', w', ?_, by rw [HE.out.2.2.1]; exact h3, h2, grown_new hgw h3 (fun b hb => (hown.lt b hb).1)⟩
        unfold execOp
        simp only [resolve, invoke, builtin, Sem.run_bind, Sem.run_pure, Result.andThen_ok, List.map_toArray, List.map_cons, List.map_nil, e32, hrun]) ?_
      intro a9 w7 hm7 hall
      have f35 := hall 35 _ _ rfl rfl
      have HO' := Lib.hid (show w7.ownsRow w.heap.size 3 1 (a9.eval (.tmp 67)) (k + [N].length) (intsV (wn (firsts b k)) ++ intsV [N]) from f35.1)
      have HGN := Lib.hid (show w.grownBy w7 none from f35.2)
      have hfr := hm7.frame
      simp only [List.take_succ_cons, List.take_zero, List.filterMap_cons, List.filterMap_nil, List.foldl_cons, List.foldl_nil] at hfr
      generalize a9.eval (.tmp 32) = e32 at hfr
      generalize a9.eval (.tmp 33) = e33 at hfr
      generalize a9.eval (.tmp 34) = e34 at hfr
      generalize a9.eval (.tmp 35) = e35 at hfr
      generalize a9.eval (.tmp 36) = e36 at hfr
      generalize a9.eval (.tmp 37) = e37 at hfr
      generalize a9.eval (.tmp 38) = e38 at hfr
      generalize a9.eval (.tmp 39) = e39 at hfr
      generalize a9.eval (.tmp 40) = e40 at hfr
      generalize a9.eval (.tmp 41) = e41 at hfr
      generalize a9.eval (.tmp 42) = e42 at hfr
      generalize a9.eval (.tmp 43) = e43 at hfr
      generalize a9.eval (.tmp 44) = e44 at hfr
      generalize a9.eval (.tmp 45) = e45 at hfr
      generalize a9.eval (.tmp 46) = e46 at hfr
      generalize a9.eval (.tmp 47) = e47 at hfr
      generalize a9.eval (.tmp 48) = e48 at hfr
      generalize a9.eval (.tmp 49) = e49 at hfr
      generalize a9.eval (.tmp 50) = e50 at hfr
      generalize a9.eval (.tmp 51) = e51 at hfr
      generalize a9.eval (.tmp 52) = e52 at hfr
      generalize a9.eval (.tmp 53) = e53 at hfr
      generalize a9.eval (.tmp 54) = e54 at hfr
      generalize a9.eval (.tmp 55) = e55 at hfr
      generalize a9.eval (.tmp 56) = e56 at hfr
      generalize a9.eval (.tmp 57) = e57 at hfr
      generalize a9.eval (.tmp 58) = e58 at hfr
      generalize a9.eval (.tmp 59) = e59 at hfr
      generalize a9.eval (.tmp 60) = e60 at hfr
      generalize a9.eval (.tmp 61) = e61 at hfr
      generalize a9.eval (.tmp 62) = e62 at hfr
      generalize a9.eval (.tmp 63) = e63 at hfr
      generalize a9.eval (.tmp 64) = e64 at hfr
      generalize a9.eval (.tmp 65) = e65 at hfr
      generalize a9.eval (.tmp 66) = e66 at hfr
      generalize a9.eval (.tmp 67) = e67 at hfr HO'
      clear hall hm7 f35
      rw [hfr]
      clear hfr
      go_wp2
      go_roundw
      case rel =>
        refine ⟨k + 1, by omega, by go_num, ?_, HGN.out⟩
        rw [HFS.out, intsV_app]
        exact HO'.out
      case measure => simp [intOf]; omega
    · have hF : firsts b k = firsts b 16 := by rw [show k = 16 by omega]
      have hk16 : k = 16 := by omega
      have ho16 := HO.out
      rw [hF] at ho16
      have hF16 := firsts_len b 16
      have hsch : sched b = more 48 (firsts b 16) := rfl
      generalize firsts b 16 = F at *
      have HO16 := Lib.hid ho16
      have HF := Lib.hid (And.intro hF16 hsch)
      have HK16 := Lib.hid hk16
      clear hF hk16 ho16 hF16 hsch HO
      go_wp2
      go_loopw [7, 9] (fun u i W => ∃ m : Nat, m ≤ 48 ∧ i = .int .i64 ((m : Int) + 16) ∧ W.ownsRow w.heap.size 3 1 u (m + 16) (intsV (wn (more m F))) ∧ w.grownBy W none) (fun _ i _ => 64 - (intOf i).toNat)
      case atStart => exact ⟨0, Nat.zero_le _, rfl, by have := HO16.out; rw [HK16.out] at this; exact this, HG.out⟩
      case round =>
        clear HO16 HG
        obtain ⟨m, hm, rfl, ho, hg⟩ := hrel
        have HO := Lib.hid ho
        have HG := Lib.hid hg
        have hrd := Rd.of_own ho
        have hml := more_len m F
        rw [HF.out.1] at hml
        have hwl : (wn (more m F)).length = m + 16 := by rw [wn_len, hml]; omega
        obtain ⟨A7, c7, rfl⟩ := hrd.form
        have e7 : (intsV (wn (more m F))).length = m + 16 := by rw [intsV_len, hwl]
        rw [e7] at hrd ⊢
        have hc7 := hrd.len.2
        unfold maxLen at hc7
        have HO7 := HO.out
        rw [e7] at HO7
        have HO7' := Lib.hid HO7
        clear ho hg HO HO7 e7
        by_cases hlt : m < 48
        · obtain ⟨g7, rfl⟩ : ∃ g7, A7 = some ⟨g7, 0, none⟩ := by
            rcases HO7'.out.2 with ⟨_, h⟩ | ⟨g, cap, cur, h, _⟩
            · omega
            · injection h with h1 h2 h3; exact ⟨g, h1⟩
          have at_ : ∀ j, j < m + 16 → wr.cell? ⟨g7, j, none⟩ = some (.int .i64 (((more m F).getD j 0).toNat : Int)) := fun j hj => by
            rw [HO7'.out.cellAt j (by omega), intsV_at _ j (by rw [hwl]; exact hj), wn_at _ _ (by rw [hml]; omega)]
          have k1 := at_ (m + 1) (by omega)
          have k2 := at_ (m + 14) (by omega)
          have k3 := at_ m (by omega)
          have k4 := at_ (m + 9) (by omega)
          have HN := Lib.hid (show nextW (more m F) = (more m F).getD m 0 + s0 ((more m F).getD (m + 1) 0) + (more m F).getD (m + 9) 0 + s1 ((more m F).getD (m + 14) 0) by
            unfold nextW
            rw [hml, show 16 + m - 16 = m by omega, show 16 + m - 15 = m + 1 by omega, show 16 + m - 7 = m + 9 by omega, show 16 + m - 2 = m + 14 by omega])
          have HW := Lib.hid (show wn (more (m + 1) F) = wn (more m F) ++ [(nextW (more m F)).toNat] by show (more m F ++ [nextW (more m F)]).map _ = _; rw [List.map_append]; rfl)
          generalize (more m F).getD m 0 = x16 at *
          generalize (more m F).getD (m + 1) 0 = x15 at *
          generalize (more m F).getD (m + 9) 0 = x7 at *
          generalize (more m F).getD (m + 14) 0 = x2 at *
          have hS0 : (s0 x15) = xx (xx (rr 7 x15) (rr 18 x15)) (shx 3 x15) := rfl
          have hS1 : (s1 x2) = xx (xx (rr 17 x2) (rr 19 x2)) (shx 10 x2) := rfl
          have hsh3 : x15.toNat / 2 ^ 3 = (shx 3 x15).toNat := by unfold shx; rw [BitVec.toNat_ushiftRight, Nat.shiftRight_eq_div_pow]
          have hsh10 : x2.toNat / 2 ^ 10 = (shx 10 x2).toNat := by unfold shx; rw [BitVec.toNat_ushiftRight, Nat.shiftRight_eq_div_pow]
          have C3 := Lib.hid (shift_any x15.toNat 3 (by have := x15.isLt; omega) (by decide) wr)
          have C10 := Lib.hid (shift_any x2.toNat 10 (by have := x2.isLt; omega) (by decide) wr)
          rw [hsh3] at C3
          rw [hsh10] at C10
          have HSS := Lib.hid (And.intro hS0 hS1)
          have B16 := x16.isLt
          have B7 := x7.isLt
          clear at_ hrd hml hwl hS0 hS1 hsh3 hsh10
          go_wp2_with fail
          refine (turn_any x15 7 (by decide) _).mono ?_
          rintro _ w1 ⟨rfl, rfl⟩
          go_wp2_with fail
          refine (turn_any x15 18 (by decide) _).mono ?_
          rintro _ w1 ⟨rfl, rfl⟩
          go_wp2_with fail
          refine (refXorO (rr 7 x15) (rr 18 x15) _).mono ?_
          rintro _ w1 ⟨rfl, rfl⟩
          go_wp2_with fail
          refine C3.out.mono ?_
          rintro _ w1 ⟨rfl, rfl⟩
          go_wp2_with fail
          refine (refXorO (xx (rr 7 x15) (rr 18 x15)) (shx 3 x15) _).mono ?_
          rintro _ w1 ⟨rfl, rfl⟩
          go_wp2_with fail
          refine (turn_any x2 17 (by decide) _).mono ?_
          rintro _ w1 ⟨rfl, rfl⟩
          go_wp2_with fail
          refine (turn_any x2 19 (by decide) _).mono ?_
          rintro _ w1 ⟨rfl, rfl⟩
          go_wp2_with fail
          refine (refXorO (rr 17 x2) (rr 19 x2) _).mono ?_
          rintro _ w1 ⟨rfl, rfl⟩
          go_wp2_with fail
          refine C10.out.mono ?_
          rintro _ w1 ⟨rfl, rfl⟩
          go_wp2_with fail
          refine (refXorO (xx (rr 17 x2) (rr 19 x2)) (shx 10 x2) _).mono ?_
          rintro _ w1 ⟨rfl, rfl⟩
          go_wp2
          rw [← HSS.out.1, ← HSS.out.2]
          generalize s0 x15 = y0 at *
          generalize s1 x2 = y1 at *
          clear HSS C3 C10
          have B0 := y0.isLt
          have B1 := y1.isLt
          have hsum : (((x16.toNat + y0.toNat + x7.toNat + y1.toNat : Nat)) : Int) = (x16.toNat : Int) + (y0.toNat : Int) + (x7.toNat : Int) + (y1.toNat : Int) := by omega
          have HWD := word_any (x16.toNat + y0.toNat + x7.toNat + y1.toNat) (by omega)
          rw [hsum, show (x16.toNat + y0.toNat + x7.toNat + y1.toNat) % 4294967296 = (nextW (more m F)).toNat by rw [HN.out, BitVec.toNat_add, BitVec.toNat_add, BitVec.toNat_add]; omega] at HWD
          generalize (nextW (more m F)).toNat = N at *
          have HWDH := Lib.hid HWD
          have HSZ := Lib.hid HG.out.size
          have HRDN : Hid (∀ W : World, Rd (W.alloc (.cells #[.int .i64 (N : Int)] 3)).drew (.slice (some ⟨W.heap.size, 0, none⟩) 1 1) (intsV [N])) := fun W => Rd.int1 W N
          have HSZS : Hid (∀ o : Obj, w.heap.size ≤ (w1.alloc o).drew.heap.size) := fun o => by have := HSZ.out; show _ ≤ (w1.alloc o).heap.size; simp; omega
          have HOWN : Hid (∀ o : Obj, (w1.alloc o).drew.ownsRow w.heap.size 3 1 (.slice (some ⟨g7, 0, none⟩) (m + 16) c7) (m + 16) (intsV (wn (more m F)))) := fun o => HO7'.out.alloc o
          have HKL : Hid (m + 16 + [N].length ≤ 1000000) := by show m + 16 + 1 ≤ 1000000; omega
          have i0 : (m : Int) < (m : Int) + 16 := by omega
          have i1 : IntKind.i64.wrap (m : Int) = (m : Int) := by rw [IntKind.wrap_i64]; omega
          have i2 : IntKind.i64.wrap ((m : Int) + 16 - 7) = (m : Int) + 9 := by rw [IntKind.wrap_i64]; omega
          have i3 : (0 : Int) ≤ (m : Int) + 9 := by omega
          have i4 : (m : Int) + 9 < (m : Int) + 16 := by omega
          have i5 : IntKind.i64.wrap ((x16.toNat : Int) + (y0.toNat : Int)) = (x16.toNat : Int) + (y0.toNat : Int) := by rw [IntKind.wrap_i64]; omega
          have i6 : IntKind.i64.wrap ((x16.toNat : Int) + (y0.toNat : Int) + (x7.toNat : Int)) = (x16.toNat : Int) + (y0.toNat : Int) + (x7.toNat : Int) := by rw [IntKind.wrap_i64]; omega
          have i7 : IntKind.i64.wrap ((x16.toNat : Int) + (y0.toNat : Int) + (x7.toNat : Int) + (y1.toNat : Int)) = (x16.toNat : Int) + (y0.toNat : Int) + (x7.toNat : Int) + (y1.toNat : Int) := by rw [IntKind.wrap_i64]; omega
          have i8 : ((m : Int) + 9).toNat = m + 9 := by omega
          clear hsum HWD
          go_region_law (first
            | (refine step_append_ints _ rfl (.tmp 98) (.tmp 115) rfl w.heap.size _ (m + 16) _ rfl (HOWN.out _) _ [N] rfl (HRDN.out _) HKL.out (HSZS.out _) ?_; intro v' w' HO' HG')
            | (go_simp; go_at_call 39; refine (HWDH.out _).mono ?_; rintro e w1 ⟨rfl, rfl⟩))
          all_goals
            go_wp2
            go_roundw
            case rel =>
              refine ⟨m + 1, by omega, by go_num, ?_, grown_new (grown_drew (grown_alloc HG.out _)) HG'.out (fun b hb => (HO7'.out.lt b hb).1)⟩
              rw [HW.out, intsV_app]
              have := HO'.out
              rw [show m + 16 + [N].length = m + 1 + 16 by show m + 16 + 1 = _; omega] at this
              exact this
            case measure => simp [intOf]; omega
        · have hSC : more m F = sched b := by rw [HF.out.2, show m = 48 by omega]
          have hm48 : m + 16 = 64 := by omega
          rw [hSC] at hrd
          rw [hm48] at hrd ⊢
          have HRW := Lib.hid hrd
          have hsl := sched_len b
          generalize hWS : sched b = ws at *
          have HWS := Lib.hid hWS
          have HSL := Lib.hid hsl
          obtain ⟨ad7, rfl, hz7⟩ := hrd.num 0 (by rw [wn_len, hsl]; decide)
          clear hz7
          have hrs := H0.out.grown0 HG.out
          obtain ⟨ad0, rfl, hz0⟩ := hrs.num 0 (by rw [wn_len, HS.out]; decide)
          clear hz0
          have hrk := H2.out.grown0 HG.out
          obtain ⟨ad2, rfl, hz2⟩ := hrk.num 0 (by decide)
          clear hz2
          have at_ : ∀ j, j < 8 → wr.cell? (ad0.add j) = some (.int .i64 ((s.getD j 0).toNat : Int)) := fun j hj => by
            obtain ⟨ad', he, hc⟩ := hrs.num j (by rw [wn_len, HS.out]; exact hj)
            cases he
            rw [wn_at _ _ (by rw [HS.out]; exact hj)] at hc
            exact hc
          have q0 : wr.cell? ad0 = _ := at_ 0 (by decide)
          have q1 : wr.cell? ⟨ad0.block, ad0.off + 1, none⟩ = _ := at_ 1 (by decide)
          have q2 : wr.cell? ⟨ad0.block, ad0.off + 2, none⟩ = _ := at_ 2 (by decide)
          have q3 : wr.cell? ⟨ad0.block, ad0.off + 3, none⟩ = _ := at_ 3 (by decide)
          have q4 : wr.cell? ⟨ad0.block, ad0.off + 4, none⟩ = _ := at_ 4 (by decide)
          have q5 : wr.cell? ⟨ad0.block, ad0.off + 5, none⟩ = _ := at_ 5 (by decide)
          have q6 : wr.cell? ⟨ad0.block, ad0.off + 6, none⟩ = _ := at_ 6 (by decide)
          have q7 : wr.cell? ⟨ad0.block, ad0.off + 7, none⟩ = _ := at_ 7 (by decide)
          have hS0 : R8.of s = ⟨s.getD 0 0, s.getD 1 0, s.getD 2 0, s.getD 3 0, s.getD 4 0, s.getD 5 0, s.getD 6 0, s.getD 7 0⟩ := rfl
          have HS0 := Lib.hid hS0
          clear hS0 at_ hrd hrs hrk hsl hWS hSC hm48 HO7'
          generalize s.getD 0 0 = x0 at *
          generalize s.getD 1 0 = x1 at *
          generalize s.getD 2 0 = x2 at *
          generalize s.getD 3 0 = x3 at *
          generalize s.getD 4 0 = x4 at *
          generalize s.getD 5 0 = x5 at *
          generalize s.getD 6 0 = x6 at *
          generalize s.getD 7 0 = x7 at *
          generalize hRS : R8.of s = RS at *
          have HRS := Lib.hid hRS
          clear hRS
          have hq64 : decide ((m : Int) + 16 < 64) = false := by simp; omega
          clear hm hlt
          go_wp2
          clear q0 q1 q2 q3 q4 q5 q6 q7 hq64
          go_loopw [14, 15, 16, 17, 18, 19, 20, 21, 22] (fun a b c d e f g h i V => ∃ (k : Nat) (R : R8), k ≤ 64 ∧ i = .int .i64 k ∧ R = rnds k RS ws ∧ a = .int .i64 (R.a.toNat : Int) ∧ b = .int .i64 (R.b.toNat : Int) ∧ c = .int .i64 (R.c.toNat : Int) ∧ d = .int .i64 (R.d.toNat : Int) ∧ e = .int .i64 (R.e.toNat : Int) ∧ f = .int .i64 (R.f.toNat : Int) ∧ g = .int .i64 (R.g.toNat : Int) ∧ h = .int .i64 (R.h.toNat : Int) ∧ w.grownBy V none ∧ Rd V (.slice (some ad7) 64 c7) (intsV (wn ws))) (fun _ _ _ _ _ _ _ _ i _ => 64 - (intOf i).toNat)
          case atStart => exact ⟨0, RS, Nat.zero_le _, rfl, rfl, by rw [HS0.out], by rw [HS0.out], by rw [HS0.out], by rw [HS0.out], by rw [HS0.out], by rw [HS0.out], by rw [HS0.out], by rw [HS0.out], HG.out, HRW.out⟩
          case round =>
            clear HG HRW HS0
            obtain ⟨i, R, hi, rfl, hR, rfl, rfl, rfl, rfl, rfl, rfl, rfl, rfl, hV, hrw⟩ := hrel
            have HR := Lib.hid hR
            have HV := Lib.hid hV
            have HRW := Lib.hid hrw
            clear hR hV
            obtain ⟨a, b', c, d, e, f, g, h⟩ := R
            by_cases hlt : i < 64
            · obtain ⟨ad2', he2, hk2⟩ := (H2.out.grown0 HV.out).num i hlt
              cases he2
              rw [kAt_nat i hlt] at hk2
              obtain ⟨ad7', he7, hw7⟩ := hrw.num i (by rw [wn_len, HSL.out]; exact hlt)
              cases he7
              rw [wn_at _ _ (by rw [HSL.out]; exact hlt)] at hw7
              have hN : rnds (i + 1) RS ws = rnd ⟨a, b', c, d, e, f, g, h⟩ (kAt i) (ws.getD i 0) := by rw [HR.out]; rfl
              generalize kAt i = kk at *
              generalize ws.getD i 0 = wk at *
              have HN := Lib.hid hN
              have HK2 := Lib.hid hk2
              have HW2 := Lib.hid hw7
              have hbd : h.toNat + (rr 6 e ^^^ rr 11 e ^^^ rr 25 e).toNat ≤ 1000000000000000 ∧ h.toNat + (rr 6 e ^^^ rr 11 e ^^^ rr 25 e).toNat + ((e &&& f) ^^^ (~~~ e &&& g)).toNat ≤ 1000000000000000 ∧ h.toNat + (rr 6 e ^^^ rr 11 e ^^^ rr 25 e).toNat + ((e &&& f) ^^^ (~~~ e &&& g)).toNat + kk.toNat ≤ 1000000000000000 ∧ h.toNat + (rr 6 e ^^^ rr 11 e ^^^ rr 25 e).toNat + ((e &&& f) ^^^ (~~~ e &&& g)).toNat + kk.toNat + wk.toNat ≤ 1000000000000 := by
                have b1 := h.isLt
                have b2 := (rr 6 e ^^^ rr 11 e ^^^ rr 25 e).isLt
                have b3 := ((e &&& f) ^^^ (~~~ e &&& g)).isLt
                have b4 := kk.isLt
                have b5 := wk.isLt
                omega
              have HBD := Lib.hid hbd
              have hq22 : decide ((i : Int) < 64) = true := by simp; omega
              clear hbd hN hk2 hw7 hrw
              go_wp2
              refine wp_region_walk 30 [] dis_nil (by kernel_rfl) (by kernel_rfl) (by kernel_rfl) ?_
              simp only [List.take_succ_cons, List.take_zero, List.drop_succ_cons, List.drop_zero]
              refine Walk.val (G := Is (.int .i64 ((h.toNat : Nat) : Int))) (stays_is _ _) rfl rfl (fun a w hm hd => ⟨wanted_plain rfl, _, ex_move rfl, (by rw [hm.outer 21 (by kernel_rfl)]; exact rfl)⟩) ?_
              refine Walk.val (G := Is (.int .i64 ((e.toNat : Nat) : Int))) (stays_is _ _) rfl rfl (fun a w hm hd => ⟨wanted_plain rfl, _, ex_move rfl, (by rw [hm.outer 18 (by kernel_rfl)]; exact rfl)⟩) ?_
              refine Walk.call (G := Is (.int .i64 (((rr 6 e).toNat : Nat) : Int))) (stays_is _ _) rfl 37 rfl (fun a w hm _ hd => ⟨wanted_plain rfl, _, ex_call2 Tryd.func37 (by kernel_rfl) (by kernel_rfl) rfl, by
                rw [show a.eval (.tmp 146) = _ from hd.at_ 1 rfl rfl rfl rfl]
                exact I64.grows (turn_any e 6 (by decide) w)⟩) ?_
              refine Walk.val (G := Is (.int .i64 ((e.toNat : Nat) : Int))) (stays_is _ _) rfl rfl (fun a w hm hd => ⟨wanted_plain rfl, _, ex_move rfl, (by rw [hm.outer 18 (by kernel_rfl)]; exact rfl)⟩) ?_
              refine Walk.call (G := Is (.int .i64 (((rr 11 e).toNat : Nat) : Int))) (stays_is _ _) rfl 37 rfl (fun a w hm _ hd => ⟨wanted_plain rfl, _, ex_call2 Tryd.func37 (by kernel_rfl) (by kernel_rfl) rfl, by
                rw [show a.eval (.tmp 148) = _ from hd.at_ 3 rfl rfl rfl rfl]
                exact I64.grows (turn_any e 11 (by decide) w)⟩) ?_
              refine Walk.call (G := Is (.int .i64 (((rr 6 e ^^^ rr 11 e).toNat : Nat) : Int))) (stays_is _ _) rfl 36 rfl (fun a w hm _ hd => ⟨wanted_plain rfl, _, ex_call2 Tryd.func36 (by kernel_rfl) (by kernel_rfl) rfl, by
                rw [show a.eval (.tmp 147) = _ from hd.at_ 2 rfl rfl rfl rfl, show a.eval (.tmp 149) = _ from hd.at_ 4 rfl rfl rfl rfl]
                exact I64.grows (refXor_any (rr 6 e) (rr 11 e) w)⟩) ?_
              refine Walk.val (G := Is (.int .i64 ((e.toNat : Nat) : Int))) (stays_is _ _) rfl rfl (fun a w hm hd => ⟨wanted_plain rfl, _, ex_move rfl, (by rw [hm.outer 18 (by kernel_rfl)]; exact rfl)⟩) ?_
              refine Walk.call (G := Is (.int .i64 (((rr 25 e).toNat : Nat) : Int))) (stays_is _ _) rfl 37 rfl (fun a w hm _ hd => ⟨wanted_plain rfl, _, ex_call2 Tryd.func37 (by kernel_rfl) (by kernel_rfl) rfl, by
                rw [show a.eval (.tmp 151) = _ from hd.at_ 6 rfl rfl rfl rfl]
                exact I64.grows (turn_any e 25 (by decide) w)⟩) ?_
              refine Walk.call (G := Is (.int .i64 (((rr 6 e ^^^ rr 11 e ^^^ rr 25 e).toNat : Nat) : Int))) (stays_is _ _) rfl 36 rfl (fun a w hm _ hd => ⟨wanted_plain rfl, _, ex_call2 Tryd.func36 (by kernel_rfl) (by kernel_rfl) rfl, by
                rw [show a.eval (.tmp 150) = _ from hd.at_ 5 rfl rfl rfl rfl, show a.eval (.tmp 152) = _ from hd.at_ 7 rfl rfl rfl rfl]
                exact I64.grows (refXor_any (rr 6 e ^^^ rr 11 e) (rr 25 e) w)⟩) ?_
              refine Walk.val (G := Is (.int .i64 ((h.toNat + (rr 6 e ^^^ rr 11 e ^^^ rr 25 e).toNat : Nat) : Int))) (stays_is _ _) rfl rfl (fun a w hm hd => ⟨wanted_plain rfl, _, ex_addn rfl (hd.at_ 0 rfl rfl rfl rfl) (hd.at_ 8 rfl rfl rfl rfl) HBD.out.1, rfl⟩) ?_
              refine Walk.val (G := Is (.int .i64 ((e.toNat : Nat) : Int))) (stays_is _ _) rfl rfl (fun a w hm hd => ⟨wanted_plain rfl, _, ex_move rfl, (by rw [hm.outer 18 (by kernel_rfl)]; exact rfl)⟩) ?_
              refine Walk.val (G := Is (.int .i64 ((f.toNat : Nat) : Int))) (stays_is _ _) rfl rfl (fun a w hm hd => ⟨wanted_plain rfl, _, ex_move rfl, (by rw [hm.outer 19 (by kernel_rfl)]; exact rfl)⟩) ?_
              refine Walk.call (G := Is (.int .i64 (((e &&& f).toNat : Nat) : Int))) (stays_is _ _) rfl 40 rfl (fun a w hm _ hd => ⟨wanted_plain rfl, _, ex_call2 Tryd.func40 (by kernel_rfl) (by kernel_rfl) rfl, by
                rw [show a.eval (.tmp 155) = _ from hd.at_ 10 rfl rfl rfl rfl, show a.eval (.tmp 156) = _ from hd.at_ 11 rfl rfl rfl rfl]
                exact I64.grows (refAnd_any e f w)⟩) ?_
              refine Walk.val (G := Is (.int .i64 ((e.toNat : Nat) : Int))) (stays_is _ _) rfl rfl (fun a w hm hd => ⟨wanted_plain rfl, _, ex_move rfl, (by rw [hm.outer 18 (by kernel_rfl)]; exact rfl)⟩) ?_
              refine Walk.val (G := Is (.int .i64 (((~~~ e).toNat : Nat) : Int))) (stays_is _ _) rfl rfl (fun a w hm hd => ⟨wanted_plain rfl, _, ex_notn rfl (hd.at_ 13 rfl rfl rfl rfl), rfl⟩) ?_
              refine Walk.val (G := Is (.int .i64 ((g.toNat : Nat) : Int))) (stays_is _ _) rfl rfl (fun a w hm hd => ⟨wanted_plain rfl, _, ex_move rfl, (by rw [hm.outer 20 (by kernel_rfl)]; exact rfl)⟩) ?_
              refine Walk.call (G := Is (.int .i64 (((~~~ e &&& g).toNat : Nat) : Int))) (stays_is _ _) rfl 40 rfl (fun a w hm _ hd => ⟨wanted_plain rfl, _, ex_call2 Tryd.func40 (by kernel_rfl) (by kernel_rfl) rfl, by
                rw [show a.eval (.tmp 159) = _ from hd.at_ 14 rfl rfl rfl rfl, show a.eval (.tmp 160) = _ from hd.at_ 15 rfl rfl rfl rfl]
                exact I64.grows (refAnd_any (~~~ e) g w)⟩) ?_
              refine Walk.call (G := Is (.int .i64 ((((e &&& f) ^^^ (~~~ e &&& g)).toNat : Nat) : Int))) (stays_is _ _) rfl 36 rfl (fun a w hm _ hd => ⟨wanted_plain rfl, _, ex_call2 Tryd.func36 (by kernel_rfl) (by kernel_rfl) rfl, by
                rw [show a.eval (.tmp 157) = _ from hd.at_ 12 rfl rfl rfl rfl, show a.eval (.tmp 161) = _ from hd.at_ 16 rfl rfl rfl rfl]
                exact I64.grows (refXor_any (e &&& f) (~~~ e &&& g) w)⟩) ?_
              refine Walk.val (G := Is (.int .i64 ((h.toNat + (rr 6 e ^^^ rr 11 e ^^^ rr 25 e).toNat + ((e &&& f) ^^^ (~~~ e &&& g)).toNat : Nat) : Int))) (stays_is _ _) rfl rfl (fun a w hm hd => ⟨wanted_plain rfl, _, ex_addn rfl (hd.at_ 9 rfl rfl rfl rfl) (hd.at_ 17 rfl rfl rfl rfl) HBD.out.2.1, rfl⟩) ?_
              refine Walk.val (G := Is (.slice (some ad2) 64 c2)) (stays_is _ _) rfl rfl (fun a w hm hd => ⟨wanted_plain rfl, _, ex_move rfl, (by rw [hm.outer 2 (by kernel_rfl)]; exact rfl)⟩) ?_
              refine Walk.val (G := Is (.int .i64 ((i : Nat) : Int))) (stays_is _ _) rfl rfl (fun a w hm hd => ⟨wanted_plain rfl, _, ex_move rfl, (by rw [hm.outer 22 (by kernel_rfl)]; exact rfl)⟩) ?_
              refine Walk.val (G := Is (.pointer (some (ad2.add i)))) (stays_is _ _) rfl rfl (fun a w hm hd => ⟨wanted_plain rfl, _, ex_idx rfl (hd.at_ 19 rfl rfl rfl rfl) (hd.at_ 20 rfl rfl rfl rfl) hlt, rfl⟩) ?_
              refine Walk.val (G := Is (.int .i64 ((kk.toNat : Nat) : Int))) (stays_is _ _) rfl rfl (fun a w hm hd => ⟨wanted_plain rfl, _, ex_loadI rfl (hd.at_ 21 rfl rfl rfl rfl) ((World.cell?_of_block (hm.grow.none2.block _ (World.block_lt_of_cell? wr _ HK2.out) (by simp))).trans HK2.out), rfl⟩) ?_
              refine Walk.val (G := Is (.int .i64 ((h.toNat + (rr 6 e ^^^ rr 11 e ^^^ rr 25 e).toNat + ((e &&& f) ^^^ (~~~ e &&& g)).toNat + kk.toNat : Nat) : Int))) (stays_is _ _) rfl rfl (fun a w hm hd => ⟨wanted_plain rfl, _, ex_addn rfl (hd.at_ 18 rfl rfl rfl rfl) (hd.at_ 22 rfl rfl rfl rfl) HBD.out.2.2.1, rfl⟩) ?_
              refine Walk.val (G := Is (.slice (some ad7) 64 c7)) (stays_is _ _) rfl rfl (fun a w hm hd => ⟨wanted_plain rfl, _, ex_move rfl, (by rw [hm.outer 7 (by kernel_rfl)]; exact rfl)⟩) ?_
              refine Walk.val (G := Is (.int .i64 ((i : Nat) : Int))) (stays_is _ _) rfl rfl (fun a w hm hd => ⟨wanted_plain rfl, _, ex_move rfl, (by rw [hm.outer 22 (by kernel_rfl)]; exact rfl)⟩) ?_
              refine Walk.val (G := Is (.pointer (some (ad7.add i)))) (stays_is _ _) rfl rfl (fun a w hm hd => ⟨wanted_plain rfl, _, ex_idx rfl (hd.at_ 24 rfl rfl rfl rfl) (hd.at_ 25 rfl rfl rfl rfl) hlt, rfl⟩) ?_
              refine Walk.val (G := Is (.int .i64 ((wk.toNat : Nat) : Int))) (stays_is _ _) rfl rfl (fun a w hm hd => ⟨wanted_plain rfl, _, ex_loadI rfl (hd.at_ 26 rfl rfl rfl rfl) ((World.cell?_of_block (hm.grow.none2.block _ (World.block_lt_of_cell? wr _ HW2.out) (by simp))).trans HW2.out), rfl⟩) ?_
              refine Walk.val (G := Is (.int .i64 ((h.toNat + (rr 6 e ^^^ rr 11 e ^^^ rr 25 e).toNat + ((e &&& f) ^^^ (~~~ e &&& g)).toNat + kk.toNat + wk.toNat : Nat) : Int))) (stays_is _ _) rfl rfl (fun a w hm hd => ⟨wanted_plain rfl, _, ex_addn rfl (hd.at_ 23 rfl rfl rfl rfl) (hd.at_ 27 rfl rfl rfl rfl) (Nat.le_trans HBD.out.2.2.2 (by decide)), rfl⟩) ?_
              refine Walk.call (G := Is (.int .i64 (((h.toNat + (rr 6 e ^^^ rr 11 e ^^^ rr 25 e).toNat + ((e &&& f) ^^^ (~~~ e &&& g)).toNat + kk.toNat + wk.toNat) % 4294967296 : Nat) : Int))) (stays_is _ _) rfl 39 rfl (fun a w hm _ hd => ⟨wanted_plain rfl, _, ex_call1 Tryd.func39 (by kernel_rfl) (by kernel_rfl) rfl, by
                rw [show a.eval (.tmp 173) = _ from hd.at_ 28 rfl rfl rfl rfl]
                exact I64.grows (word_any (h.toNat + (rr 6 e ^^^ rr 11 e ^^^ rr 25 e).toNat + ((e &&& f) ^^^ (~~~ e &&& g)).toNat + kk.toNat + wk.toNat) HBD.out.2.2.2 w)⟩) ?_
              intro a9 w7 hm7 hall
              have f29 : a9.eval (.tmp 174) = _ := hall 29 _ _ rfl rfl
              have hfr := hm7.frame
              simp only [List.take_succ_cons, List.take_zero, List.filterMap_cons, List.filterMap_nil, List.foldl_cons, List.foldl_nil] at hfr
              rw [tt_nat a b' c d e f g h kk wk] at f29
              rw [f29] at hfr
              generalize a9.eval (.tmp 145) = e145 at hfr
              generalize a9.eval (.tmp 146) = e146 at hfr
              generalize a9.eval (.tmp 147) = e147 at hfr
              generalize a9.eval (.tmp 148) = e148 at hfr
              generalize a9.eval (.tmp 149) = e149 at hfr
              generalize a9.eval (.tmp 150) = e150 at hfr
              generalize a9.eval (.tmp 151) = e151 at hfr
              generalize a9.eval (.tmp 152) = e152 at hfr
              generalize a9.eval (.tmp 153) = e153 at hfr
              generalize a9.eval (.tmp 154) = e154 at hfr
              generalize a9.eval (.tmp 155) = e155 at hfr
              generalize a9.eval (.tmp 156) = e156 at hfr
              generalize a9.eval (.tmp 157) = e157 at hfr
              generalize a9.eval (.tmp 158) = e158 at hfr
              generalize a9.eval (.tmp 159) = e159 at hfr
              generalize a9.eval (.tmp 160) = e160 at hfr
              generalize a9.eval (.tmp 161) = e161 at hfr
              generalize a9.eval (.tmp 162) = e162 at hfr
              generalize a9.eval (.tmp 163) = e163 at hfr
              generalize a9.eval (.tmp 164) = e164 at hfr
              generalize a9.eval (.tmp 165) = e165 at hfr
              generalize a9.eval (.tmp 166) = e166 at hfr
              generalize a9.eval (.tmp 167) = e167 at hfr
              generalize a9.eval (.tmp 168) = e168 at hfr
              generalize a9.eval (.tmp 169) = e169 at hfr
              generalize a9.eval (.tmp 170) = e170 at hfr
              generalize a9.eval (.tmp 171) = e171 at hfr
              generalize a9.eval (.tmp 172) = e172 at hfr
              generalize a9.eval (.tmp 173) = e173 at hfr
              have hg7 : wr.grownBy w7 none := GrownX.none2 hm7.grow
              clear hall hm7 f29
              have HV7 := Lib.hid (HV.out.trans hg7)
              have HRW7 := Lib.hid (HRW.out.grown0 hg7)
              clear hg7 HV HRW HK2 HW2 HBD
              rw [hfr]
              clear hfr
              generalize hT : tt ⟨a, b', c, d, e, f, g, h⟩ kk wk = T at *
              have hXU := uu_nat a b' c d e f g h
              have hXU' : ((xx (xx (rr 2 a) (rr 13 a)) (rr 22 a)).toNat + (xx (xx (aa a b') (aa a c)) (aa b' c)).toNat) % 4294967296 = (uu ⟨a, b', c, d, e, f, g, h⟩).toNat := hXU
              have hU := word_any ((xx (xx (rr 2 a) (rr 13 a)) (rr 22 a)).toNat + (xx (xx (aa a b') (aa a c)) (aa b' c)).toNat) (by have b1 := (xx (xx (rr 2 a) (rr 13 a)) (rr 22 a)).isLt; have b2 := (xx (xx (aa a b') (aa a c)) (aa b' c)).isLt; omega)
              rw [hXU', Int.natCast_add] at hU
              generalize hUU : uu ⟨a, b', c, d, e, f, g, h⟩ = U at *
              have hDT := word_any (d.toNat + T.toNat) (by have b1 := d.isLt; have b2 := T.isLt; omega)
              rw [Int.natCast_add, show (d.toNat + T.toNat) % 4294967296 = (ax d T).toNat by unfold ax; rw [BitVec.toNat_add]] at hDT
              have hTU := word_any (T.toNat + U.toNat) (by have b1 := T.isLt; have b2 := U.isLt; omega)
              rw [Int.natCast_add, show (T.toNat + U.toNat) % 4294967296 = (ax T U).toNat by unfold ax; rw [BitVec.toNat_add]] at hTU
              have HCU := Lib.hid hU
              have HCD := Lib.hid hDT
              have HCT := Lib.hid hTU
              have hN2 := HN.out
              have hN3 : rnds (i + 1) RS ws = ⟨ax T U, a, b', c, ax d T, e, f, g⟩ := by
                rw [hN2]
                show (⟨tt ⟨a, b', c, d, e, f, g, h⟩ kk wk + uu ⟨a, b', c, d, e, f, g, h⟩, a, b', c, d + tt ⟨a, b', c, d, e, f, g, h⟩ kk wk, e, f, g⟩ : R8) = _
                rw [hT, hUU]
                rfl
              have HN3 := Lib.hid hN3
              clear hXU hXU' hU hDT hTU hN2 hN3 hT hUU HN HR
              have BT := T.isLt
              have BU := U.isLt
              have BD := d.isLt
              go_wp2_with fail
              refine (turn_any a 2 (by decide) _).mono ?_
              rintro _ w1 ⟨rfl, rfl⟩
              go_wp2_with fail
              refine (turn_any a 13 (by decide) _).mono ?_
              rintro _ w1 ⟨rfl, rfl⟩
              go_wp2_with fail
              refine (refXorO (rr 2 a) (rr 13 a) _).mono ?_
              rintro _ w1 ⟨rfl, rfl⟩
              go_wp2_with fail
              refine (turn_any a 22 (by decide) _).mono ?_
              rintro _ w1 ⟨rfl, rfl⟩
              go_wp2_with fail
              refine (refXorO (xx (rr 2 a) (rr 13 a)) (rr 22 a) _).mono ?_
              rintro _ w1 ⟨rfl, rfl⟩
              go_wp2_with fail
              refine (refAndO a b' _).mono ?_
              rintro _ w1 ⟨rfl, rfl⟩
              go_wp2_with fail
              refine (refAndO a c _).mono ?_
              rintro _ w1 ⟨rfl, rfl⟩
              go_wp2_with fail
              refine (refXorO (aa a b') (aa a c) _).mono ?_
              rintro _ w1 ⟨rfl, rfl⟩
              go_wp2_with fail
              refine (refAndO b' c _).mono ?_
              rintro _ w1 ⟨rfl, rfl⟩
              go_wp2_with fail
              refine (refXorO (xx (aa a b') (aa a c)) (aa b' c) _).mono ?_
              rintro _ w1 ⟨rfl, rfl⟩
              have BX := (xx (xx (rr 2 a) (rr 13 a)) (rr 22 a)).isLt
              have BY := (xx (xx (aa a b') (aa a c)) (aa b' c)).isLt
              go_wp2_with fail
              refine (HCU.out _).mono ?_
              rintro _ w1 ⟨rfl, rfl⟩
              go_wp2_with fail
              refine (HCD.out _).mono ?_
              rintro _ w1 ⟨rfl, rfl⟩
              go_wp2_with fail
              refine (HCT.out _).mono ?_
              rintro _ w1 ⟨rfl, rfl⟩
              go_wp2
              go_roundw
              case rel => exact ⟨i + 1, _, by omega, by go_num, HN3.out.symm, rfl, rfl, rfl, rfl, rfl, rfl, rfl, rfl, HV7.out, HRW7.out⟩
              case measure => simp [intOf]; omega
            · have e64 : (⟨a, b', c, d, e, f, g, h⟩ : R8) = rnds 64 RS ws := by rw [HR.out, show i = 64 by omega]
              have hq22 : decide ((i : Int) < 64) = false := by simp; omega
              have hblk : blk s b = List.zipWith (· + ·) s (R8.l ⟨a, b', c, d, e, f, g, h⟩) := by
                unfold blk
                rw [HWS.out, HRS.out, e64]
              have HBLK := Lib.hid hblk
              have hrl : (R8.l ⟨a, b', c, d, e, f, g, h⟩).length = 8 := rfl
              have hrs := H0.out.grown0 HV.out
              have HSR := Lib.hid hrs
              have hln : Rd (wr.alloc (.cells (intsV (wn (R8.l ⟨a, b', c, d, e, f, g, h⟩))).toArray 3)) (.slice (some ⟨wr.heap.size, 0, none⟩) 8 8) (intsV (wn (R8.l ⟨a, b', c, d, e, f, g, h⟩))) := (Row.new wr 3 _).rd 8 8 rfl (by decide) (by decide)
              have HLN := Lib.hid hln
              clear e64 hblk hrs hln hi hlt hrw HR
              go_wp2
              have hW4 : wr.alloc (.cells #[.int .i64 (a.toNat : Int), .int .i64 (b'.toNat : Int), .int .i64 (c.toNat : Int), .int .i64 (d.toNat : Int), .int .i64 (e.toNat : Int), .int .i64 (f.toNat : Int), .int .i64 (g.toNat : Int), .int .i64 (h.toNat : Int)] 3) = wr.alloc (.cells (intsV (wn (R8.l ⟨a, b', c, d, e, f, g, h⟩))).toArray 3) := rfl
              rw [hW4]
              have hg4 : wr.grownBy (wr.alloc (.cells (intsV (wn (R8.l ⟨a, b', c, d, e, f, g, h⟩))).toArray 3)) none := grown_alloc (grown_refl _ _) _
              have HS4 := Lib.hid (HSR.out.grown0 hg4)
              have HV4 := Lib.hid (HV.out.trans hg4)
              have hLlt : wr.heap.size < (wr.alloc (.cells (intsV (wn (R8.l ⟨a, b', c, d, e, f, g, h⟩))).toArray 3)).heap.size := by simp
              have HLLT := Lib.hid hLlt
              generalize wr.alloc (.cells (intsV (wn (R8.l ⟨a, b', c, d, e, f, g, h⟩))).toArray 3) = W4 at *
              generalize wr.heap.size = L at *
              generalize R8.l ⟨a, b', c, d, e, f, g, h⟩ = nl at *
              have HNL := Lib.hid hrl
              clear hW4 hg4 hLlt hrl HSR HV hq22
              go_loopw [26, 27] (fun u i W => ∃ q : Nat, q ≤ 8 ∧ i = .int .i64 q ∧ W.ownsRow W4.heap.size 3 1 u q (intsV (wn ((blk s b).take q))) ∧ W4.grownBy W none) (fun _ i _ => 8 - (intOf i).toNat)
              case atStart => exact ⟨0, Nat.zero_le _, rfl, World.ownsRow_nil _ _ _ _, grown_refl _ _⟩
              case round =>
                obtain ⟨q, hq, rfl, ho, hgr⟩ := hrel
                have HO := Lib.hid ho
                have HGR := Lib.hid hgr
                clear ho hgr
                have hbl := blk_len s b HS.out
                by_cases hlt : q < 8
                · obtain ⟨ad0', he0, hcs⟩ := (HS4.out.grown0 HGR.out).num q (by rw [wn_len, HS.out]; exact hlt)
                  cases he0
                  rw [wn_at _ _ (by rw [HS.out]; exact hlt)] at hcs
                  obtain ⟨adL, heL, hcl⟩ := (HLN.out.grown0 HGR.out).num q (by rw [wn_len, HNL.out]; exact hlt)
                  cases heL
                  rw [wn_at _ _ (by rw [HNL.out]; exact hlt)] at hcl
                  have hadd : (⟨L, 0, none⟩ : Addr).add q = ⟨L, q, none⟩ := by unfold Addr.add; split <;> simp_all
                  rw [hadd] at hcl
                  have hz : (blk s b).getD q 0 = s.getD q 0 + nl.getD q 0 := by
                    rw [HBLK.out]
                    exact zip_getD s nl q (by rw [HS.out]; exact hlt) (by rw [HNL.out]; exact hlt)
                  have htk : wn ((blk s b).take (q + 1)) = wn ((blk s b).take q) ++ [((blk s b).getD q 0).toNat] := wn_take_succ _ q (by rw [hbl]; exact hlt)
                  rw [hz] at htk
                  generalize s.getD q 0 = x at *
                  generalize nl.getD q 0 = y at *
                  have bx := x.isLt
                  have bY := y.isLt
                  have HWD := word_any (x.toNat + y.toNat) (by omega)
                  rw [Int.natCast_add, show (x.toNat + y.toNat) % 4294967296 = (x + y).toNat by rw [BitVec.toNat_add]] at HWD
                  generalize (x + y).toNat = N at *
                  have HWDH := Lib.hid HWD
                  have HTK := Lib.hid htk
                  have i5 : IntKind.i64.wrap ((x.toNat : Int) + (y.toNat : Int)) = (x.toNat : Int) + (y.toNat : Int) := by rw [IntKind.wrap_i64]; omega
                  have i6 : (q : Int) < 8 := by omega
                  have HSZ := Lib.hid HGR.out.size
                  have HRDN : Hid (∀ W : World, Rd (W.alloc (.cells #[.int .i64 (N : Int)] 3)).drew (.slice (some ⟨W.heap.size, 0, none⟩) 1 1) (intsV [N])) := fun W => Rd.int1 W N
                  have HSZS : Hid (∀ (V : World) (o : Obj), V = wr → W4.heap.size ≤ (V.alloc o).drew.heap.size) := fun V o hV => by subst hV; have := HSZ.out; show _ ≤ (V.alloc o).heap.size; simp; omega
                  have HOWN : Hid (∀ o : Obj, (wr.alloc o).drew.ownsRow W4.heap.size 3 1 u26 q (intsV (wn ((blk s b).take q)))) := fun o => HO.out.alloc o
                  have HKL : Hid (q + [N].length ≤ 1000000) := by show q + 1 ≤ 1000000; omega
                  clear hz htk HWD hadd hbl
                  go_wp2
                  go_region_law (first
                    | (refine step_append_ints _ rfl (.tmp 223) (.tmp 234) rfl W4.heap.size _ q _ rfl (HOWN.out _) _ [N] rfl (HRDN.out _) HKL.out (HSZS.out _ _ rfl) ?_; intro v' w' HO' HG')
                    | (go_simp; go_at_call 39; refine (HWDH.out _).mono ?_; rintro e w1 ⟨rfl, hw1⟩; subst hw1))
                  all_goals
                    go_wp2
                    go_roundw
                    case rel =>
                      refine ⟨q + 1, by omega, by go_num, ?_, grown_new (grown_drew (grown_alloc HGR.out _)) HG'.out (fun b hb => (HO.out.lt b hb).1)⟩
                      rw [HTK.out, intsV_app]
                      exact HO'.out
                    case measure => simp [intOf]; omega
                · have hq8 : (blk s b).take q = blk s b := List.take_of_length_le (by rw [hbl]; omega)
                  rw [hq8] at HO
                  have hqq : decide ((q : Int) < 8) = false := by simp; omega
                  clear hq8 hbl hq hlt
                  go_wp2
                  go_ret
                  exact ⟨_, rfl, Rd.of_own HO.out, HV4.out.trans HGR.out⟩
end Go.Proofs.YtmhcfbfdbminnaaDoor
