/-
  ring's At over this program, of things of type int.
-/
import Derived.Test.YtnbeakpmglefmaaRngIBase
namespace Go.Proofs.Ytnbeakpmglefmaa.RingI
open Go.RowKit

def pairV (p : Int × Bool) : Value := .tuple #[(Value.int .i64 (p.1)), .bool p.2]
set_option maxHeartbeats 1000000 in
theorem at_none (ptr : Value) (hp : ∀ w : World, Calls Try.prog 13 #[ptr] w (Saw (.int .i64 0) w)) (age : Int) (w : World) : Calls Try.prog 15 #[ptr, .int .i64 age] w (Saw (pairV ((0 : Int), false)) w) := by
  have HP := Lib.hid hp
  clear hp
  by_cases h0 : age < 0
  · go_enter Try.func15, Try.ntmps15
    go_wp2
    refine bodyPost_ret (results_tmp2 rfl _ _ _) rfl ?_
    exact ⟨rfl, 0, rfl⟩
  · have hd0 : decide (age < 0) = false := by simp; omega
    have hd1 : decide (0 ≤ age) = true := by simp; omega
    clear h0
    go_enter Try.func15, Try.ntmps15
    go_wp2_with fail
    refine (HP.out _).mono ?_
    rintro e w1 ⟨rfl, m, rfl⟩
    go_wp2
    refine bodyPost_ret (results_tmp2 rfl _ _ _) rfl ?_
    exact ⟨rfl, m, rfl⟩
theorem at_nil (age : Int) (w : World) : Calls Try.prog 15 #[.pointer none, .int .i64 age] w (Saw (pairV ((0 : Int), false)) w) :=
  at_none _ len_nil age w

set_option maxHeartbeats 2000000 in
theorem at_at (g : Nat) (vb : Option Nat) (R : Nat) (L : List Int) (age : Int) (w : World) (h : Ring w g vb R L) (hR : R ≤ 65536) (hL : L.length ≤ 1000000) :
    Calls Try.prog 15 #[.pointer (some ⟨g, 0, none⟩), .int .i64 age] w (Saw (pairV (agedIn (0 : Int) R L age)) w) := by
  have HLN := Lib.hid (len_at g vb R L w h)
  by_cases hin : 0 ≤ age ∧ age < (min L.length R : Nat)
  · obtain ⟨k, rfl⟩ : ∃ k : Nat, age = k := ⟨age.toNat, by omega⟩
    have hk : k < min L.length R := by omega
    rw [agedIn_in (0 : Int) R L k hk]
    obtain ⟨v, xs, hrow, hown, hh, hvb, hne⟩ := h
    have hp := hh.at_ k (by rw [hh.1]; exact hk)
    have HP := Lib.hid (fun n => place_at g v R L.length k (w.drewN n) (hrow.drewN n) (by omega) hR hL (by omega))
    obtain ⟨A, c, rfl⟩ := (Rd.of_own hown).form
    obtain ⟨ad, u, rfl, hu, hcell⟩ := Rd.cellAt (Rd.of_own hown) (by rw [rowV_len]; exact hp.1)
    have hget : L[L.length - 1 - k]? = some (L.getD (L.length - 1 - k) (0 : Int)) := by rw [List.getD_eq_getElem?_getD, List.getElem?_eq_getElem (by omega)]; rfl
    rw [rowV_at xs _ _ (hp.2.trans hget)] at hu
    injection hu with hu
    subst hu
    rw [rowV_len] at hrow
    have h0 := hrow.cell (j := 0) rfl
    have hpl := hp.1
    have hxl := hh.1
    have hd0 : decide ((k : Int) < 0) = false := by simp
    have hd1 : decide (((min L.length R : Nat) : Int) ≤ (k : Int)) = false := by simp; omega
    clear hrow hown hh hvb hne hget hp hin
    generalize L.getD (L.length - 1 - k) (0 : Int) = x at *
    generalize (L.length - 1 - k) % R = p at *
    generalize min L.length R = mn at *
    go_enter Try.func15, Try.ntmps15
    go_wp2_with fail
    refine HLN.out.mono ?_
    rintro e w1 ⟨rfl, m, hw1⟩
    have h0' : w1.cell? ⟨g, 0, none⟩ = some (.slice (some ad) xs.length c) := by rw [hw1]; exact h0
    have hc' : w1.cell? (ad.add p) = some (Value.int .i64 (x)) := by rw [hw1]; exact hcell
    have HP1 := Lib.hid (fun n => (show Calls Try.prog 27 #[.pointer (some ⟨g, 0, none⟩), .int .i64 (k : Int)] (w1.drewN n) (Saw (.int .i64 (p : Int)) (w1.drewN n)) by rw [hw1, World.drewN_drewN]; exact HP.out _))
    have HW1 := Lib.hid hw1
    clear h0 hcell HP HLN hw1
    have hpx : (p : Int) < (xs.length : Int) := by omega
    go_wp2
    go_quiet ((go_at_call 27; exact Calls.quiet_of (HP1.out _)))
    go_wp2
    refine bodyPost_ret (results_tmp2 rfl _ _ _) rfl ?_
    exact ⟨rfl, _, by rw [HW1.out]; exact (World.drewN_drewN _ _ _)⟩
  · rw [agedIn_out (0 : Int) R L age hin]
    by_cases h0 : age < 0
    · clear hin h hR hL HLN
      go_enter Try.func15, Try.ntmps15
      go_wp2
      refine bodyPost_ret (results_tmp2 rfl _ _ _) rfl ?_
      exact ⟨rfl, 0, rfl⟩
    · have hd0 : decide (age < 0) = false := by simp; omega
      have hd1 : decide (((min L.length R : Nat) : Int) ≤ age) = true := by simp; omega
      clear h0 hin h hR hL
      generalize min L.length R = mn at *
      go_enter Try.func15, Try.ntmps15
      go_wp2_with fail
      refine HLN.out.mono ?_
      rintro e w1 ⟨rfl, m, rfl⟩
      go_wp2
      refine bodyPost_ret (results_tmp2 rfl _ _ _) rfl ?_
      exact ⟨rfl, m, rfl⟩
end Go.Proofs.Ytnbeakpmglefmaa.RingI
