/-
  stream.Blocks over this program: the iterator that it answers, by its contract.
-/
import Derived.Test.YtjcbdplbekecjaaStrXorB
import Derived.Test.YtjcbdplbekecjaaRnd
import Derived.LoopNIn
import Derived.LoopIn
namespace Go.Proofs.Ytjcbdplbekecjaa
open Go.RowKit

/-- What the iterator has captured: the number, the key, the nonce. -/
structure Clo (gn gk gc : Nat) (key : List UInt8) (n : W32) (nonce : List UInt8) (w : World) : Prop where
  num : Row w gn 36 [.int .u32 (n.toNat : Int)]
  key : Row w gk 22 (bytesV key)
  nonce : Row w gc 23 (bytesV nonce)
theorem Clo.grown0 {gn gk gc : Nat} {key : List UInt8} {n : W32} {nonce : List UInt8} {w w' : World} (h : Clo gn gk gc key n nonce w) (hg : w.grownBy w' none) : Clo gn gk gc key n nonce w' :=
  ⟨h.num.grown0 hg, h.key.grown0 hg, h.nonce.grown0 hg⟩
def iterV (gn gk gc : Nat) : Value := .func (.func 36) #[] #[.pointer (some ⟨gn, 0, none⟩), .pointer (some ⟨gk, 0, none⟩), .pointer (some ⟨gc, 0, none⟩)]
/-- What Blocks answers. -/
def Iter (key : List UInt8) (n : W32) (nonce : List UInt8) (w : World) (e : Ending) (w' : World) : Prop :=
  ∃ gn gk gc, e = .returned (iterV gn gk gc) ∧ Clo gn gk gc key n nonce w' ∧ w.grownBy w' none ∧ w.heap.size ≤ gn ∧ w.heap.size ≤ gk ∧ w.heap.size ≤ gc

set_option maxHeartbeats 1000000 in
theorem blocks_any (key : List UInt8) (n : W32) (nonce : List UInt8) (w : World) :
    Calls Try.prog 22 #[.agg (bytesV key).toArray, .int .u32 (n.toNat : Int), .agg (bytesV nonce).toArray] w (Iter key n nonce w) := by
  generalize hG : w.heap.size = G
  go_enter Try.func22, Try.ntmps22
  go_wp2
  go_ret
  refine ⟨G + 1, G, G + 1 + 1, rfl, ⟨(Row.newAt _ _ _ (by simp [hG])).alloc _, ((Row.newAt w _ (bytesV key) hG).alloc _).alloc _, Row.newAt _ _ (bytesV nonce) (by simp [hG])⟩, grown_alloc (grown_alloc (grown_alloc (grown_refl _ _) _) _) _, ?_, ?_, ?_⟩ <;> omega

section
variable {P : Program}
/-- A whole block taken out, in the wide fence. -/
theorem wide_load_row {n : Nat} (w : World) {ops : Array Oper} {rest : List Oper} {o : Oper} {a : Act} {Q : Exit → Act → World → Prop} (hgd : o.guard = none) (x : Operand) (ty : TypeId) (ho : o.op = .load ty x)
    (g : Nat) (t : TypeId) (cs : List Value) (d : TypeDesc) (hv : a.eval x = .pointer (some ⟨g, 0, none⟩)) (hr : Row w g t cs)
    (hu : P.underlying ty = some d) (hd : (match d with | .struct _ | .array _ _ => true | _ => false) = true) (hi : (P.info? ty).map (·.size) = some cs.length)
    (h : wpListIn Fence.wide n P ops Q rest (a.put o.dst (.agg cs.toArray)) w) : wpListIn Fence.wide n P ops Q (o :: rest) a w := by
  unfold wpListIn
  rw [if_pos (by simp [Region.wanted, hgd])]
  refine ⟨fun _ _ => trivial, ?_⟩
  rw [show Fence.wide.round = none from rfl, Oper.semAt_none, ex_load_row ho g t cs d hv hr hu hd hi]
  exact h
end

set_option maxHeartbeats 2000000 in
theorem iter_any (key : List UInt8) (hk : key.length = 32) (n : W32) (nonce : List UInt8) (hn : nonce.length = 12) (gn gk gc N : Nat) (hN : N ≤ 4294967296) :
    Ever Try.prog 36 #[.pointer (some ⟨gn, 0, none⟩), .pointer (some ⟨gk, 0, none⟩), .pointer (some ⟨gc, 0, none⟩)] (fun k => #[.agg (bytesV (blok key (n + BitVec.ofNat 32 k) nonce)).toArray]) (Clo gn gk gc key n nonce) N := by
  intro l J Jx W hC hJ hY h0
  have HC := Lib.hid hC
  have HJ := Lib.hid hJ
  have HY := Lib.hid hY
  have H0 := Lib.hid h0
  have HB := Lib.hid (fun m w => block_any key hk m nonce hn w)
  have HKL := Lib.hid (show (bytesV key).length = 32 by rw [bytesV_len, hk])
  have HNL := Lib.hid (show (bytesV nonce).length = 12 by rw [bytesV_len, hn])
  have cn := (hC 0 W h0).2.num.cell (j := 0) rfl
  clear hC hJ hY h0 hk hn
  refine callsIn_of_wp Try.func36 rfl trivial ?_ rfl
  simp only [Try.ntmps36, List.size_toArray, List.length_cons, List.length_nil, Nat.reduceAdd, Nat.reduceSub, Array.replicate_succ, Array.replicate_zero, List.push_toArray, List.append_toArray, List.nil_append, List.cons_append]
  have heq : (binOp .eql 63 (.func (.yield l) #[] #[]) .nilFunc).run Try.prog W = .ok (.bool false) W := by kernel_rfl
  gi_wp2
  clear heq cn
  gi_loopw [5] (fun v V => ∃ k : Nat, v = .int .u32 ((n + BitVec.ofNat 32 k).toNat : Int) ∧ J k V) (fun v _ => N - ((intOf v - (n.toNat : Int)) % 4294967296).toNat)
  case atStart => exact ⟨0, by simp, H0.out⟩
  case round =>
    clear H0
    obtain ⟨k, rfl, hj⟩ := hrel
    have hkN := HC.out k _ hj
    have RK := Lib.hid hkN.2.key
    have RN := Lib.hid hkN.2.nonce
    have HM := Lib.hid (show ((((n + BitVec.ofNat 32 k).toNat : Int) - (n.toNat : Int)) % 4294967296).toNat = k by
      have h1 := n.isLt
      have h2 := hkN.1
      rw [BitVec.toNat_add, BitVec.toNat_ofNat]
      omega)
    have HM1 := Lib.hid (show k + 1 < 4294967296 → ((((n + BitVec.ofNat 32 (k + 1)).toNat : Int) - (n.toNat : Int)) % 4294967296).toNat = k + 1 from fun hk1 => by
      have h1 := n.isLt
      rw [BitVec.toNat_add, BitVec.toNat_ofNat]
      omega)
    have HK1 := Lib.hid hkN.1
    have HJK := Lib.hid hj
    have HNX := Lib.hid (show (((n + BitVec.ofNat 32 k).toNat : Int) + 1) % 4294967296 = ((n + BitVec.ofNat 32 (k + 1)).toNat : Int) by
      rw [BitVec.toNat_add, BitVec.toNat_ofNat, BitVec.toNat_add, BitVec.toNat_ofNat]
      omega)
    have HYK := Lib.hid (fun V hV => HY.out k V hV)
    clear hkN hj
    generalize n + BitVec.ofNat 32 k = m at *
    gi_wp2_with (first
      | refine wide_load_row _ rfl _ 22 rfl gk 22 (bytesV key) _ rfl RK.out Try.underlying22 rfl (by rw [HKL.out]; kernel_rfl) ?_
      | refine wide_load_row _ rfl _ 23 rfl gc 23 (bytesV nonce) _ rfl RN.out Try.underlying23 rfl (by rw [HNL.out]; kernel_rfl) ?_)
    refine ⟨trivial, rfl, (callsIn_wide.2 (HB.out m wr)).mono ?_⟩
    rintro e w1 ⟨rfl, hg1⟩
    obtain ⟨fn, tmps, assign, body, hy, hR⟩ := HYK.out w1 (HJ.out _ _ _ HJK.out hg1)
    have HR := Lib.hid hR
    clear hR HYK
    generalize bytesV (blok key m nonce) = xs at *
    gi_wp2
    refine ⟨rfl, HR.out.mono ?_⟩
    rintro e w3 (⟨rfl, hj3⟩ | ⟨rfl, hx3⟩)
    · have HJ3 := Lib.hid hj3
      clear hj3 hy HR
      have hm := m.isLt
      gi_wp2
      rw [HNX.out]
      go_roundw
      case rel => exact ⟨k + 1, rfl, HJ3.out⟩
      case measure =>
        have h1 := HM.out
        have h4 := (HC.out _ _ HJ3.out).1
        have h2 := HM1.out (by omega)
        have h3 := HK1.out
        simp only [intOf]
        rw [h1, h2]
        omega
    · gi_wp2
      refine bodyPost_end (results_none rfl _ _ _) rfl ?_
      exact ⟨⟨_, rfl⟩, hx3⟩
end Go.Proofs.Ytjcbdplbekecjaa
