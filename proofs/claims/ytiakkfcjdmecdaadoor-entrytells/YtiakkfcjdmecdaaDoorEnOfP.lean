/-
  entry.Of, Right and Total over this program.
-/
import Derived.Test.YtiakkfcjdmecdaaDoorEnShortF
namespace Go.Proofs.YtiakkfcjdmecdaaDoor
set_option maxRecDepth 1000000
open Go.RowKit

theorem pathsOf (l : List Fl) : ∀ b, (∀ f ∈ l, rightB f.path = true) ↔ (∀ e ∈ toldF b l, rightB e.path = true) := by
  induction l with
  | nil => simp [toldF]
  | cons f l ih => intro b; simp only [toldF, List.mem_cons, forall_eq_or_imp, ← ih (b + f.data.length)]; exact Iff.rfl
theorem told_size (m : Nat) (l : List Fl) (h : ∀ f ∈ l, f.data.length ≤ m) : ∀ b, ∀ e ∈ toldF b l, 0 ≤ e.size ∧ e.size ≤ (m : Int) := by
  induction l with
  | nil => intro b e he; cases he
  | cons f l ih =>
    intro b e he
    rcases List.mem_cons.1 he with rfl | he
    · have := h f (by simp); simp only [enF]; omega
    · exact ih (fun g hg => h g (by simp [hg])) _ e he
/-- Why files that may be gone through may not be. -/
theorem few_why {l : List Fl} (h : FewF l) : whyE (toldF 0 l) = if ¬ (∀ f ∈ l, rightB f.path = true) then 9 else if sortedB (pathsE (toldF 0 l)) = false then 10 else if fineE (toldF 0 l) = false then 1 else 0 := by
  have hsz := told_size 200 l (fun f hf => (h.2 f hf).2.2) 0
  have hlen : (toldF 0 l).length ≤ 12 := by rw [toldF_len]; exact h.1
  have hsum : sumE (toldF 0 l) ≤ 4194304 := by
    rw [sumE_sizes _ (fun e he => (hsz e he).1)]
    have := (sizes_bound (toldF 0 l) (fun e he => ⟨(hsz e he).1, by have := (hsz e he).2; omega⟩) (toldF 0 l).length).2
    rw [List.take_length] at this
    have h3 : sizesE (toldF 0 l) = ((dataF l).length : Int) := by
      have := sizes_told l 0
      simpa using this
    have h2 := few_sum h l.length
    rw [List.take_length] at h2
    omega
  have hp := pathsOf l 0
  have hso := sorted_is (toldF 0 l)
  have hfi := fine_told l
  generalize toldF 0 l = T at *
  have hW : whyE T = if T.all (fun e => rightB e.path) = false then 9 else if ascTo T T.length = false then 10 else if T.all okE = false then 1 else 0 := by
    unfold whyE
    rw [if_neg (show ¬ 1024 < T.length by omega), if_neg (show ¬ T.all (fun e => decide (e.size ≤ 1048576)) = false by
      rw [Bool.not_eq_false, List.all_eq_true]; exact fun e he => decide_eq_true (by have := (hsz e he).2; omega)), if_neg (show ¬ 4194304 < sumE T by omega)]
  have hA : T.all (fun e => rightB e.path) = true ↔ ∀ f ∈ l, rightB f.path = true := by rw [hp, List.all_eq_true]
  rw [hfi]
  by_cases h9 : ∀ f ∈ l, rightB f.path = true
  · have h9a := hA.2 h9
    rw [if_neg (fun hh => hh h9)]
    rw [if_neg (by rw [h9a]; decide)] at hW
    have hso2 : sortedB (pathsE T) = ascTo T T.length := by
      rw [Bool.eq_iff_iff, hso]
      exact ⟨fun h => h.2, fun h => ⟨hp.1 h9, h⟩⟩
    rw [hso2, hW]
    cases ascTo T T.length
    · simp
    · cases T.all okE <;> simp
  · have h9a : T.all (fun e => rightB e.path) = false := by
      cases h : T.all (fun e => rightB e.path)
      · rfl
      · exact absurd (hA.1 h) h9
    rw [if_pos h9, hW, if_pos h9a]

/-- What Of answers, of files whose entries are T. -/
def OfT (T : List En) (w : World) (e : Ending) (w' : World) : Prop :=
  ∃ u, e = .returned (.tuple #[u, .int .i64 (whyE T)]) ∧ w.grownBy w' none ∧ RdE w' u (if whyE T = 0 then T else [])
set_option maxHeartbeats 8000000 in
theorem of_any : HasOf := by
  intro v l w hr hf
  obtain ⟨A, c, rfl⟩ := hr.form
  obtain ⟨n, hn⟩ : ∃ n, l.length = n := ⟨_, rfl⟩
  have HN := Lib.hid hn
  rw [hn] at hr ⊢
  have hle := hf.1
  have hlen := few_lens hf
  have HW := Lib.hid (few_why hf)
  have HE := Lib.hid (entries_any l (.slice A n c) w hr (by omega) (fun f h => by have := (hf.2 f h).2.2; omega))
  have HNM := Lib.hid (fun W (hg : w.grownBy W none) => allNamed_any (fun _ W => RdF W (.slice A n c) l) (fun k => rightB (l.getD k default).path) none A n c l W hn (by omega) (fun r e => by cases e) (fun _ _ h => h) (fun _ _ _ h hg => h.grown0 hg)
      (fun k W' A2 c2 hk hi _ => (named_any (l.getD k default) A2 c2 W' (by have := atF (p := fun f => f.path.length ≤ 300 ∧ f.to.length ≤ 300 ∧ f.data.length ≤ 200) hf.2 (k := k) (by omega); omega)).mono fun e W2 ⟨he, hg⟩ => ⟨he, hi.grown0 hg, hg⟩) (hr.grown0 hg))
  have HSH := Lib.hid (fun W (hg : w.grownBy W none) => fshort_any (.slice A n c) l W (hr.grown0 hg) hf)
  have HP := Lib.hid (fun u W (hu : RdE W u (toldF 0 l)) => paths_any (toldF 0 l) u W hu (by omega))
  have HS := Lib.hid (fun u w1 (hu : Rd w1 u (strsV (pathsE (toldF 0 l)))) => sorted_any u (pathsE (toldF 0 l)) w1 hu (by simp [pathsE]; omega) (fun p hp => by
      obtain ⟨e, he, rfl⟩ := List.mem_map.1 hp
      have := (hlen.1 e he).1; omega))
  have HF := Lib.hid (fun u w1 (hu : RdE w1 u (toldF 0 l)) => fine_any u 300 (toldF 0 l) w1 hu hlen.1 (by decide))
  have HMA : Hid ((∀ j, j < n → rightB (l.getD j default).path = true) ↔ ∀ f ∈ l, rightB f.path = true) := by
    refine Lib.hid ⟨fun h f hf => ?_, fun h j hj => atF (p := fun f => rightB f.path = true) h (by omega)⟩
    obtain ⟨j, hj, rfl⟩ := List.getElem_of_mem hf
    have := h j (by omega)
    rwa [show l.getD j default = l[j] by simp [List.getElem?_eq_getElem hj]] at this
  show Calls _ _ _ _ (OfT (toldF 0 l) w)
  generalize toldF 0 l = T at *
  have HU := Lib.hid hr
  clear hr hf hle hlen hn
  go_enter Tryd.func13, Tryd.ntmps13
  go_wp2_with fail
  refine HE.out.mono ?_
  rintro e1 w1 ⟨u, rfl, hu, hg1⟩
  obtain ⟨A1, c1, rfl⟩ := hu.form
  have HRE := Lib.hid hu
  have HG1 := Lib.hid hg1
  have HNM1 := Lib.hid (HNM.out w1 hg1)
  clear hu hg1 HE HNM
  go_wp2_with fail
  refine HNM1.out.mono ?_
  rintro e2 w2 ⟨r, rfl, hri, hg2⟩
  have HG2 := Lib.hid (HG1.out.trans hg2)
  have HRE2 := Lib.hid (HRE.out.grown0 hg2)
  have HRI := Lib.hid (hri.trans HMA.out)
  clear hri hg2 HNM1 HG1 HRE HMA
  cases r
  · have HWW : Hid (whyE T = 9) := Lib.hid (by rw [HW.out, if_pos (fun h => by have := HRI.out.2 h; cases this)])
    go_wp2
    refine bodyPost_ret (results_tmp2 rfl _ _ _) rfl ?_
    refine ⟨.slice none 0 0, by rw [HWW.out]; rfl, HG2.out, ?_⟩
    rw [HWW.out, if_neg (by decide)]
    exact RdE.nil _
  · have HP2 := Lib.hid (HP.out _ w2 HRE2.out)
    have HWA := Lib.hid (show whyE T = _ from by rw [HW.out, if_neg (fun h => h (HRI.out.1 (by simp)))])
    clear HRI HW HP
    go_wp2_with fail
    refine HP2.out.mono ?_
    rintro e3 w3 ⟨u3, rfl, hu3, hg3⟩
    have HS3 := Lib.hid (HS.out u3 w3 hu3)
    have HG3 := Lib.hid (HG2.out.trans hg3)
    have HRE3 := Lib.hid (HRE2.out.grown0 hg3)
    clear hu3 hg3 HG2 HRE2 HP2 HS
    go_wp2_with fail
    refine HS3.out.mono ?_
    rintro e4 w4 ⟨rfl, hg4⟩
    have HG4 := Lib.hid (HG3.out.trans hg4)
    have HRE4 := Lib.hid (HRE3.out.grown0 hg4)
    have HSH4 := Lib.hid (HSH.out w4 (HG3.out.trans hg4))
    clear hg4 HG3 HRE3 HS3 HSH
    cases hs : sortedB (pathsE T)
    · have HWW : Hid (whyE T = 10) := Lib.hid (by rw [HWA.out, if_pos hs])
      clear hs
      go_wp2
      refine bodyPost_ret (results_tmp2 rfl _ _ _) rfl ?_
      refine ⟨.slice none 0 0, by rw [HWW.out]; rfl, HG4.out, ?_⟩
      rw [HWW.out, if_neg (by decide)]
      exact RdE.nil _
    · have HWB := Lib.hid (show whyE T = _ from by rw [HWA.out, if_neg (by rw [hs]; decide)])
      clear hs HWA
      go_wp2_with fail
      refine HSH4.out.mono ?_
      rintro e5 w5 ⟨rfl, hg5⟩
      have HG5 := Lib.hid (HG4.out.trans hg5)
      have HRE5 := Lib.hid (HRE4.out.grown0 hg5)
      have HF5 := Lib.hid (HF.out _ w5 (HRE4.out.grown0 hg5))
      clear hg5 HG4 HRE4 HSH4 HF
      go_wp2_with fail
      refine HF5.out.mono ?_
      rintro e6 w6 ⟨rfl, hg6⟩
      have HG6 := Lib.hid (HG5.out.trans hg6)
      have HRE6 := Lib.hid (HRE5.out.grown0 hg6)
      clear hg6 HG5 HRE5 HF5
      cases hfi : fineE T
      · have HWW : Hid (whyE T = 1) := Lib.hid (by rw [HWB.out, if_pos hfi])
        clear hfi
        go_wp2
        refine bodyPost_ret (results_tmp2 rfl _ _ _) rfl ?_
        refine ⟨.slice none 0 0, by rw [HWW.out]; rfl, HG6.out, ?_⟩
        rw [HWW.out, if_neg (by decide)]
        exact RdE.nil _
      · have HWW : Hid (whyE T = 0) := Lib.hid (by rw [HWB.out, if_neg (by rw [hfi]; decide)])
        clear hfi
        go_wp2
        refine bodyPost_ret (results_tmp2 rfl _ _ _) rfl ?_
        refine ⟨_, by rw [HWW.out]; rfl, HG6.out, ?_⟩
        rw [HWW.out, if_pos rfl]
        exact HRE6.out
end Go.Proofs.YtiakkfcjdmecdaaDoor
