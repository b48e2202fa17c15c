/-
  ring's All and Old over this program, of things of type string: the iterators that they answer, by their contract.
-/
import Derived.Test.YtnbeakpmglefmaaRngSPut
import Derived.Test.YtnbeakpmglefmaaRndN
import Derived.LoopNIn
import Derived.LoopIn
namespace Go.Proofs.Ytnbeakpmglefmaa.RingS
open Go.RowKit

/-- The ring at ptr tells N things, by their ages. -/
def Tells (ptr : Value) (N : Nat) (xs : Nat → ByteArray) (W : World) : Prop :=
  Calls Try.prog 23 #[ptr] W (Saw (.int .i64 (N : Int)) W) ∧
  ∀ k, k < N → Calls Try.prog 21 #[ptr, .int .i64 (k : Int)] W (Saw (pairV (xs k, true)) W)
theorem tells_nil (xs : Nat → ByteArray) (W : World) : Tells (.pointer none) 0 xs W := ⟨len_nil W, fun k h => absurd h (Nat.not_lt_zero k)⟩
theorem tells_at (g : Nat) (vb : Option Nat) (R : Nat) (L : List ByteArray) (w : World) (h : Ring w g vb R L) (hR : R ≤ 65536) (hL : L.length ≤ 1000000) : Tells (.pointer (some ⟨g, 0, none⟩)) (min L.length R) (fun k => L.getD (L.length - 1 - k) (⟨#[]⟩ : ByteArray)) w := by
  refine ⟨len_at g vb R L w h, fun k hk => ?_⟩
  have := at_at g vb R L (k : Int) w h hR hL
  rwa [agedIn_in (⟨#[]⟩ : ByteArray) R L k hk] at this
/-- What an iterator reads: its ring's pointer, in a box, and the ring. -/
def Reads (gp : Nat) (ptr : Value) (N : Nat) (xs : Nat → ByteArray) (W : World) : Prop := Row W gp 33 [ptr] ∧ Tells ptr N xs W

def allV (gp : Nat) : Value := .func (.func 29) #[] #[.pointer (some ⟨gp, 0, none⟩)]
def oldV (gp : Nat) : Value := .func (.func 30) #[] #[.pointer (some ⟨gp, 0, none⟩)]
def IterOut (ptr : Value) (u : Nat → Value) (w : World) (e : Ending) (w' : World) : Prop :=
  ∃ gp, e = .returned (u gp) ∧ Row w' gp 33 [ptr] ∧ w.grownBy w' none ∧ w.heap.size ≤ gp
set_option maxHeartbeats 400000 in
theorem all_any (p : Option Addr) (w : World) : Calls Try.prog 20 #[.pointer p] w (IterOut (.pointer p) allV w) := by
  go_enter Try.func20, Try.ntmps20
  go_wp2
  go_ret
  exact ⟨w.heap.size, rfl, Row.new w _ _, grown_alloc (grown_refl _ _) _, Nat.le_refl _⟩
set_option maxHeartbeats 400000 in
theorem old_any (p : Option Addr) (w : World) : Calls Try.prog 22 #[.pointer p] w (IterOut (.pointer p) oldV w) := by
  go_enter Try.func22, Try.ntmps22
  go_wp2
  go_ret
  exact ⟨w.heap.size, rfl, Row.new w _ _, grown_alloc (grown_refl _ _) _, Nat.le_refl _⟩
/-- A pointer's value: what these calls are handed. -/
def IsPtr (ptr : Value) : Prop := ∃ p, ptr = .pointer p

set_option maxHeartbeats 2000000 in
theorem allF (gp : Nat) (p : Option Addr) (N : Nat) (xs : Nat → ByteArray) (hN : N ≤ 65536) :
    Upto Try.prog 29 #[.pointer (some ⟨gp, 0, none⟩)] (fun k => #[.int .i64 (k : Int), (Value.string (xs k))]) (Reads gp (.pointer p) N xs) N := by
  intro l J Jx W hC hJ hJx hY h0
  have HC := Lib.hid hC
  have HJ := Lib.hid hJ
  have HJX := Lib.hid hJx
  have HY := Lib.hid hY
  have H0 := Lib.hid h0
  have cn := (hC 0 W h0).1.cell (j := 0) rfl
  have HLN := Lib.hid (Calls.seen (hC 0 W h0).2.1)
  clear hC hJ hJx hY h0
  refine callsIn_of_wp Try.func29 rfl trivial ?_ rfl
  simp only [Try.ntmps29, List.size_toArray, List.length_cons, List.length_nil, Nat.reduceAdd, Nat.reduceSub, Array.replicate_succ, Array.replicate_zero, List.push_toArray, List.append_toArray, List.nil_append, List.cons_append]
  have heq : (binOp .eql 56 (.func (.yield l) #[] #[]) .nilFunc).run Try.prog W = .ok (.bool false) W := by kernel_rfl
  gi_wp2
  clear heq cn
  refine ⟨trivial, rfl, (callsIn_wide.2 HLN.out).mono ?_⟩
  rintro e w1 ⟨rfl, hg1⟩
  have H1 := Lib.hid (HJ.out _ _ _ H0.out hg1)
  clear hg1 H0 HLN
  gi_wp2
  gi_loopw [10] (fun v V => ∃ k : Nat, v = .int .i64 k ∧ k ≤ N ∧ J k V) (fun v _ => N - (intOf v).toNat)
  case atStart => exact ⟨0, rfl, Nat.zero_le _, H1.out⟩
  case round =>
    clear H1
    obtain ⟨k, rfl, hk, hj⟩ := hrel
    by_cases hlt : k < N
    · have hc := HC.out k _ hj
      have ck := hc.1.cell (j := 0) rfl
      have HA := Lib.hid (Calls.seen (hc.2.2 k hlt))
      have HJK := Lib.hid hj
      have HYK := Lib.hid (fun V hV => HY.out k V hlt hV)
      simp only [pairV] at HA
      clear hc hj hk
      generalize (Value.string (xs k)) = x at *
      gi_wp2
      clear ck
      refine ⟨trivial, rfl, (callsIn_wide.2 HA.out).mono ?_⟩
      rintro e w1 ⟨rfl, hg1⟩
      obtain ⟨fn, tmps, assign, body, hy, hR⟩ := HYK.out w1 (HJ.out _ _ _ HJK.out hg1)
      have HR := Lib.hid hR
      clear hR HYK HA hg1
      gi_wp2
      refine ⟨rfl, HR.out.mono ?_⟩
      rintro e w3 (⟨rfl, hj3⟩ | ⟨rfl, hx3⟩)
      · have HJ3 := Lib.hid hj3
        clear hj3 hy HR
        gi_wp2
        go_roundw
        case rel => exact ⟨k + 1, rfl, by omega, HJ3.out⟩
        case measure => simp only [intOf]; omega
      · gi_wp2
        refine bodyPost_ret (results_none rfl _ _ _) rfl ?_
        exact ⟨⟨_, rfl⟩, .inr hx3⟩
    · obtain rfl : k = N := by omega
      gi_wp2
      refine bodyPost_end (results_none rfl _ _ _) rfl ?_
      exact ⟨⟨_, rfl⟩, .inl hj⟩

set_option maxHeartbeats 2000000 in
theorem oldF (gp : Nat) (p : Option Addr) (N : Nat) (xs : Nat → ByteArray) (hN : N ≤ 65536) :
    Upto Try.prog 30 #[.pointer (some ⟨gp, 0, none⟩)] (fun k => #[(Value.string (xs (N - 1 - k)))]) (Reads gp (.pointer p) N xs) N := by
  intro l J Jx W hC hJ hJx hY h0
  have HC := Lib.hid hC
  have HJ := Lib.hid hJ
  have HJX := Lib.hid hJx
  have HY := Lib.hid hY
  have H0 := Lib.hid h0
  have cn := (hC 0 W h0).1.cell (j := 0) rfl
  have HLN := Lib.hid (Calls.seen (hC 0 W h0).2.1)
  clear hC hJ hJx hY h0
  refine callsIn_of_wp Try.func30 rfl trivial ?_ rfl
  simp only [Try.ntmps30, List.size_toArray, List.length_cons, List.length_nil, Nat.reduceAdd, Nat.reduceSub, Array.replicate_succ, Array.replicate_zero, List.push_toArray, List.append_toArray, List.nil_append, List.cons_append]
  have heq : (binOp .eql 57 (.func (.yield l) #[] #[]) .nilFunc).run Try.prog W = .ok (.bool false) W := by kernel_rfl
  gi_wp2
  clear heq cn
  refine ⟨trivial, rfl, (callsIn_wide.2 HLN.out).mono ?_⟩
  rintro e w1 ⟨rfl, hg1⟩
  have H1 := Lib.hid (HJ.out _ _ _ H0.out hg1)
  clear hg1 H0 HLN
  gi_wp2
  gi_loopw [3] (fun v V => ∃ k : Nat, v = .int .i64 ((N : Int) - 1 - (k : Int)) ∧ k ≤ N ∧ J k V) (fun v _ => (intOf v + 1).toNat)
  case atStart => exact ⟨0, by simp, Nat.zero_le _, H1.out⟩
  case round =>
    clear H1
    obtain ⟨k, rfl, hk, hj⟩ := hrel
    by_cases hlt : k < N
    · have hc := HC.out k _ hj
      have ck := hc.1.cell (j := 0) rfl
      have HA := Lib.hid (Calls.seen (hc.2.2 (N - 1 - k) (by omega)))
      have HJK := Lib.hid hj
      have HYK := Lib.hid (fun V hV => HY.out k V hlt hV)
      simp only [pairV] at HA
      obtain ⟨m, hm⟩ : ∃ m : Nat, N - 1 - k = m := ⟨_, rfl⟩
      have hmi : (N : Int) - 1 - (k : Int) = (m : Int) := by omega
      have HM := Lib.hid (show (m : Int) - 1 = (N : Int) - 1 - ((k + 1 : Nat) : Int) by omega)
      have hwm : wrap64 ((m : Int) - 1) = (m : Int) - 1 := by unfold wrap64; omega
      rw [hm] at HA HYK
      rw [hmi]
      clear hc hj hk hm hmi
      generalize (Value.string (xs m)) = x at *
      have hm0 : decide ((0 : Int) ≤ (m : Int)) = true := by simp
      gi_wp2
      clear ck
      refine ⟨trivial, rfl, (callsIn_wide.2 HA.out).mono ?_⟩
      rintro e w1 ⟨rfl, hg1⟩
      obtain ⟨fn, tmps, assign, body, hy, hR⟩ := HYK.out w1 (HJ.out _ _ _ HJK.out hg1)
      have HR := Lib.hid hR
      clear hR HYK HA hg1
      gi_wp2
      refine ⟨rfl, HR.out.mono ?_⟩
      rintro e w3 (⟨rfl, hj3⟩ | ⟨rfl, hx3⟩)
      · have HJ3 := Lib.hid hj3
        clear hj3 hy HR
        gi_wp2
        rw [hwm, HM.out]
        go_roundw
        case rel => exact ⟨k + 1, rfl, by omega, HJ3.out⟩
        case measure => have := HM.out; simp only [intOf]; omega
      · gi_wp2
        refine bodyPost_ret (results_none rfl _ _ _) rfl ?_
        exact ⟨⟨_, rfl⟩, .inr hx3⟩
    · obtain rfl : k = N := by omega
      rw [show (k : Int) - 1 - (k : Int) = -1 by omega]
      gi_wp2
      refine bodyPost_end (results_none rfl _ _ _) rfl ?_
      exact ⟨⟨_, rfl⟩, .inl hj⟩
end Go.Proofs.Ytnbeakpmglefmaa.RingS
