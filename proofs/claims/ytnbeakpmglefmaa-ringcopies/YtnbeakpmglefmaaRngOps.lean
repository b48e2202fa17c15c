/-
  What layer 8's laws share: a number of a row, the document's own At.
-/
import Derived.Test.YtnbeakpmglefmaaRngAwake
namespace Go.Proofs.Ytnbeakpmglefmaa
open Go.RowKit

theorem num_at {w : World} {A : Option Addr} {n c k : Nat} {l : List Int} (h : Rd w (.slice A n c) (RingI.rowV l)) (hk : k < l.length) : ∃ ad, A = some ad ∧ w.cell? (ad.add k) = some (.int .i64 l[k]) := by
  have hn := h.len.1
  rw [RingI.rowV_len] at hn
  obtain ⟨ad, u, rfl, hu, hc⟩ := h.cellAt (k := k) (by omega)
  rw [RingI.rowV_at l k l[k] (List.getElem?_eq_getElem hk)] at hu
  injection hu with hu
  subst hu
  exact ⟨ad, rfl, hc⟩
theorem take_next {T : Type} (l : List T) (k : Nat) (hk : k < l.length) : l.take k ++ [l[k]] = l.take (k + 1) := by
  rw [List.take_add_one, List.getElem?_eq_getElem hk]; rfl
/-- What Put answers, where the things are a row's next. -/
def PutNext (w : World) (g : Nat) (vb : Option Nat) (R : Nat) (L : List Int) (p : Int × Bool) (e : Ending) (w' : World) : Prop :=
  ∃ vb', e = .returned (RingI.pairV p) ∧ RingI.Ring w' g vb' R L ∧ Went w g vb w' vb'
theorem put_next (g : Nat) (vb : Option Nat) (R : Nat) (l : List Int) (k : Nat) (hk : k < l.length) (w : World) (h : RingI.Ring w g vb R (l.take k)) (hR : R ≤ 65536) (hL : l.length ≤ 900000) :
    Calls Try.prog 12 #[.pointer (some ⟨g, 0, none⟩), .int .i64 l[k]] w (PutNext w g vb R (l.take (k + 1)) (outIn 0 R (l.take k) l[k])) := by
  refine (RingI.put_at g vb R (l.take k) l[k] w h hR (by simp; omega)).mono ?_
  rintro e w' ⟨vb', h1, h2, h3⟩
  rw [take_next l k hk] at h2
  exact ⟨vb', h1, h2, h3⟩
theorem aged_last {T : Type} (z x : T) (R : Nat) (L : List T) : agedIn z R (L ++ [x]) 0 = if 0 < R then (x, true) else (z, false) := by
  by_cases h : 0 < R
  · rw [if_pos h]
    have := agedIn_in z R (L ++ [x]) 0 (by simp; omega)
    simpa using this
  · rw [if_neg h]
    exact agedIn_out z R (L ++ [x]) 0 (by simp; omega)

set_option maxHeartbeats 1000000 in
theorem ref_at (A : Option Addr) (n c : Nat) (l : List Int) (R : Nat) (age : Int) (w : World) (h : Rd w (.slice A n c) (RingI.rowV l)) (hn : n ≤ 1000000) (hR : R ≤ 65536) :
    Calls Try.prog 16 #[.slice A n c, .int .i64 (R : Int), .int .i64 age] w fun e w' => e = .returned (RingI.pairV (agedIn 0 R l age)) ∧ w.grownBy w' none := by
  have hl := h.len.1
  rw [RingI.rowV_len] at hl
  by_cases hin : 0 ≤ age ∧ age < (min l.length R : Nat)
  · obtain ⟨k, rfl⟩ : ∃ k : Nat, age = k := ⟨age.toNat, by omega⟩
    have hk : k < min l.length R := by omega
    rw [agedIn_in 0 R l k hk]
    have hx : l.length - 1 - k < l.length := by omega
    obtain ⟨ad, rfl, hc⟩ := num_at h hx
    rw [show l.getD (l.length - 1 - k) 0 = l[l.length - 1 - k] by rw [List.getD_eq_getElem?_getD, List.getElem?_eq_getElem hx]; rfl]
    generalize l[l.length - 1 - k] = y at *
    rw [hl] at *
    have h1 : decide ((k : Int) < 0) = false := by simp
    have h2 : decide (n ≤ k) = false := by simp; omega
    have h3 : decide (R ≤ k) = false := by simp; omega
    have hp : (n : Int) - 1 - (k : Int) = ((n - 1 - k : Nat) : Int) := by omega
    have hpx : n - 1 - k < n := by omega
    have hk1 : k < n := by omega
    clear h hin hl hk hx
    go_enter Try.func16, Try.ntmps16
    go_wp2
    refine bodyPost_ret (results_tmp2 rfl _ _ _) rfl ?_
    exact ⟨rfl, grown_refl _ _⟩
  · rw [agedIn_out 0 R l age hin]
    by_cases h0 : age < 0
    · clear h hin
      go_enter Try.func16, Try.ntmps16
      go_wp2
      refine bodyPost_ret (results_tmp2 rfl _ _ _) rfl ?_
      exact ⟨rfl, grown_refl _ _⟩
    · have h1 : decide (age < 0) = false := by simp; omega
      by_cases h2 : (n : Int) ≤ age
      · clear h hin h0
        go_enter Try.func16, Try.ntmps16
        go_wp2
        refine bodyPost_ret (results_tmp2 rfl _ _ _) rfl ?_
        exact ⟨rfl, grown_refl _ _⟩
      · have h3 : decide ((n : Int) ≤ age) = false := by simp; omega
        have h4 : decide ((R : Int) ≤ age) = true := by simp; omega
        clear h hin h0 h2
        go_enter Try.func16, Try.ntmps16
        go_wp2
        refine bodyPost_ret (results_tmp2 rfl _ _ _) rfl ?_
        exact ⟨rfl, grown_refl _ _⟩
end Go.Proofs.Ytnbeakpmglefmaa
