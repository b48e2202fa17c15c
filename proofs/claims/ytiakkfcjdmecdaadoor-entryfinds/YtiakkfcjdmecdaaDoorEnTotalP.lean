/-
  entry.Right, Fine and Total over this program, of what may be gone through.
-/
import Derived.Test.YtiakkfcjdmecdaaDoorEnOfP
namespace Go.Proofs.YtiakkfcjdmecdaaDoor
set_option maxRecDepth 1000000
open Go.RowKit

theorem fright_any : HasRight := by
  intro v l w hr hf
  have H : Hid (Calls Tryd.prog 13 #[v] w fun e w' => ∃ u, e = .returned (.tuple #[u, .int .i64 (whyE (toldF 0 l))]) ∧ w.grownBy w' none) := Lib.hid ((of_any v l w hr hf).mono fun e w' ⟨u, he, hg, _⟩ => ⟨u, he, hg⟩)
  clear hr hf
  generalize whyE (toldF 0 l) = z at *
  go_enter Tryd.func16, Tryd.ntmps16
  go_wp2_with fail
  refine H.out.mono ?_
  rintro e1 w1 ⟨u, rfl, hg⟩
  have HG := Lib.hid hg
  clear hg H
  by_cases h : z = 0
  · subst h
    go_wp2
    go_ret
    exact ⟨rfl, HG.out⟩
  · have q1 : (z == 0) = false := beq_eq_false_iff_ne.2 h
    go_wp2
    go_ret
    exact ⟨by rw [q1]; rfl, HG.out⟩
theorem has_fine : HasFine := fun v l w hr hm _ _ => fine_any v 300 l w hr hm (by decide)

set_option maxHeartbeats 4000000 in
theorem total_any (v : Value) (m : Nat) (l : List En) (w : World) (hr : RdE w v l) (hm : Lens l m) (hmb : m < 1000000000) (hnb : l.length ≤ 1000000) :
    Calls Tryd.prog 25 #[v] w (Val (.int .i64 (totalE l)) w) := by
  obtain ⟨A, c, rfl⟩ := hr.form
  have HF := Lib.hid (fine_any _ m l w hr hm hmb)
  obtain ⟨n, hn⟩ : ∃ n, l.length = n := ⟨_, rfl⟩
  have HN := Lib.hid hn
  have HT := Lib.hid (show totalE l = if fineE l then sizesE l else 0 from rfl)
  rw [hn] at hr hnb HF ⊢
  by_cases h0 : n = 0
  · have hl : l = [] := List.length_eq_zero_iff.1 (by omega)
    have HE : Hid (totalE l = 0) := Lib.hid (by rw [HT.out, hl]; simp [sizesE])
    clear hr hm hn HF hl
    subst h0
    go_enter Tryd.func25, Tryd.ntmps25
    go_wp2
    go_ret
    exact ⟨by rw [HE.out]; rfl, grown_refl _ _⟩
  · have HR := Lib.hid hr
    have q0 : ((n : Int) == 0) = false := beq_eq_false_iff_ne.2 (by omega)
    have q1 : ((n : Int) != 0) = true := by rw [bne, q0]; rfl
    clear hr hm
    go_enter Tryd.func25, Tryd.ntmps25
    go_wp2_with fail
    refine HF.out.mono ?_
    rintro e1 w1 ⟨rfl, hg⟩
    have HG := Lib.hid hg
    clear hg HF
    cases hf : fineE l
    · have HE : Hid (totalE l = 0) := Lib.hid (by rw [HT.out, hf]; rfl)
      clear hn
      go_wp2
      go_ret
      exact ⟨by rw [HE.out]; rfl, HG.out⟩
    · have HE : Hid (totalE l = sizesE l) := Lib.hid (by rw [HT.out, hf]; rfl)
      have hgd := (fine_good hf).1
      have hbg := (fine_good hf).2
      have hb := sizes_bound l hgd.size n
      have hkl : n - 1 < l.length := by omega
      have hbe : (l.getD (n - 1) default).beg = sizesE (l.take (n - 1)) := by
        rw [begsTo, List.all_eq_true] at hbg
        exact beq_iff_eq.1 (hbg (n - 1) (List.mem_range.2 hkl))
      have hnx := sizesE_next l (n - 1) hkl
      rw [show n - 1 + 1 = n by omega] at hnx
      rw [show l.take n = l by rw [← hn, List.take_length]] at hb hnx
      have HS : Hid (totalE l = (l.getD (n - 1) default).beg + (l.getD (n - 1) default).size) := Lib.hid (by rw [HE.out, hnx, hbe])
      have hgs := (fine_good hf).1.few
      obtain ⟨ad, rfl, c0, c1, c2, c3, c4, c5, c6⟩ := (HR.out.grown0 HG.out).step hkl
      have HEN := Lib.hid (fun w' => end_any (l.getD (n - 1) default) w' ⟨by rw [hbe, ← hnx]; omega, by rw [hbe, ← hnx]; omega⟩)
      have hi : (n : Int) - 1 = ((n - 1 : Nat) : Int) := by omega
      have hlt : ((n - 1 : Nat) : Int) < (n : Int) := by omega
      clear hn hgd hbg hb hkl hbe hnx HE hf hgs
      generalize l.getD (n - 1) default = t at *
      go_wp2_with fail
      refine (HEN.out _).mono ?_
      rintro e2 w2 ⟨rfl, hg2⟩
      have HG2 := Lib.hid (HG.out.trans hg2)
      clear hg2 HEN
      go_wp2
      go_ret
      exact ⟨by rw [HS.out]; rfl, HG2.out⟩
theorem has_total : HasTotal := fun v l w hr hm _ hl => total_any v 300 l w hr hm (by decide) (by omega)
end Go.Proofs.YtiakkfcjdmecdaaDoor
