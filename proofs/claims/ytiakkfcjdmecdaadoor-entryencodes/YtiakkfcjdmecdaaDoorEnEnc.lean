/-
  entry.Encode over this program.
-/
import Derived.Test.YtiakkfcjdmecdaaDoorEnTotalP
import Derived.Test.YtiakkfcjdmecdaaDoorEnEncR
import Derived.Test.YtiakkfcjdmecdaaDoorMOct
namespace Go.Proofs.YtiakkfcjdmecdaaDoor
set_option maxRecDepth 1000000
open Go.RowKit

theorem own_lowE {w : World} {base base' n : Nat} {e : TypeId} {v : Value} {xs : List Value} (h : w.ownsRow base e 1 v n xs) (hb : base' ≤ base) : w.ownsRow base' e 1 v n xs := by
  rcases h with ⟨h1, h2⟩
  refine ⟨h1, ?_⟩
  rcases h2 with h | ⟨g, c, cur, q1, q2, q3⟩
  · exact .inl h
  · exact .inr ⟨g, c, cur, q1, Nat.le_trans hb q2, q3⟩
/-- octet.Number onto nothing: a row of the call's own. -/
theorem number_ownE (n : Int) (w : World) : Calls Tryd.prog 49 #[.slice none 0 0, .int .i64 n] w (OutO w (numB n)) := by
  have HNB := Lib.hid (numberBytes_any n)
  have HE := Lib.hid (numB_len n)
  have HX := Lib.hid (show enc (norm n) = numB n from rfl)
  go_enter Tryd.func49, Tryd.ntmps49
  go_wp2_with fail
  refine (HNB.out _).mono ?_
  rintro e w1 ⟨v1, rfl, hr1, hg1, hf1⟩
  rw [HX.out] at hr1
  generalize numB n = l at *
  have HR1 := Lib.hid hr1
  have HG1 := Lib.hid hg1
  obtain ⟨A1, c1, rfl⟩ := hr1.form
  clear hr1 hg1 hf1
  go_wp2_with fail
  refine (concat_own w1.heap.size [_, _] [[], l] _ (heap_alloc_new w1 _) rfl (O.rd_two (Rd.nil _) (HR1.out.grown0 (grown_alloc (grown_refl _ _) _))) ?_ (by simp)).mono ?_
  · have := HE.out
    simp; omega
  · rintro e w2 ⟨v2, rfl, ho2, hg2⟩
    have HO2 := Lib.hid (own_lowE (base' := w.heap.size) ho2 (by have := HG1.out.size; simp; omega))
    have HG2 := Lib.hid (grown_new (grown_alloc HG1.out _) hg2 (fun _ h => by cases h))
    clear ho2 hg2
    go_wp2
    go_ret
    exact ⟨_, rfl, by simpa using HO2.out, HG2.out⟩
/-- What a call answers that makes new bytes. -/
def OutR (w : World) (l : List UInt8) (e : Ending) (w' : World) : Prop := ∃ u, e = .returned u ∧ Rd w' u (bytesV l) ∧ w.grownBy w' none
set_option maxRecDepth 100000 in
set_option maxHeartbeats 8000000 in
theorem encodeOne_any (e : En) (w : World) (m : Nat) (hm : e.path.length ≤ m ∧ e.to.length ≤ m) (hmb : m ≤ 1000000) :
    Calls Tryd.prog 50 #[enV e] w (OutR w (entB e)) := by
  have HX := Lib.hid (show entB e = numsB (numsE e) ++ textB e.path ++ textB e.to from rfl)
  have H5 := Lib.hid (numsB_len (numsE e))
  have HL := Lib.hid (And.intro (Nat.le_trans hm.1 hmb) (Nat.le_trans hm.2 hmb))
  have hR5 : Row ((w.alloc (.cells (enC e).toArray 38)).alloc (.cells (intsE e).toArray 3)) w.heap.size 38 (enC e) := (Row.new w _ (enC e)).alloc _
  have hR6 : Row ((w.alloc (.cells (enC e).toArray 38)).alloc (.cells (intsE e).toArray 3)) (w.heap.size + 1) 3 (intsE e) := Row.newAt _ _ _ (by simp)
  have hG6 : w.grownBy ((w.alloc (.cells (enC e).toArray 38)).alloc (.cells (intsE e).toArray 3)) none := grown_alloc (grown_alloc (grown_refl _ _) _) _
  clear hm hmb
  go_enter Tryd.func50, Tryd.ntmps50
  simp only [enV, enC]
  go_wp2
  show Code.wp _ _ _ _ ((w.alloc (.cells (enC e).toArray 38)).alloc (.cells (intsE e).toArray 3))
  generalize ((w.alloc (.cells (enC e).toArray 38)).alloc (.cells (intsE e).toArray 3)) = W6 at *
  have R5 := Lib.hid hR5
  have R6 := Lib.hid hR6
  have G6 := Lib.hid hG6
  clear hR5 hR6 hG6
  go_loopw [3, 18] (fun b i W => ∃ j : Nat, j ≤ 5 ∧ i = .int .i64 j ∧ Rd W b (bytesV (numsB ((numsE e).take j))) ∧ W6.grownBy W none) (fun _ i _ => 5 - (intOf i).toNat)
  case atStart => exact ⟨0, by decide, rfl, by simpa [numsB, bytesV] using Rd.nil _, grown_refl _ _⟩
  case round =>
    obtain ⟨j, hj, rfl, hb, hg⟩ := hrel
    have HB := Lib.hid hb
    have HG := Lib.hid hg
    clear hb hg
    obtain ⟨A3, c3, rfl⟩ := HB.out.form
    by_cases hj5 : j < 5
    · have d1 : decide ((j : Int) < 5) = true := by simp; omega
      have HNJ := Lib.hid (numsB_next (numsE e) j hj5)
      have cj := (R6.out.grown0 HG.out).cell (nums_at e j hj5)
      have hl : (numsB ((numsE e).take j)).length ≤ 30 := by
        have h7 := numsB_len ((numsE e).take j)
        have h8 : ((numsE e).take j).length ≤ 5 := by rw [List.length_take]; omega
        omega
      generalize (numsE e).getD j 0 = x at *
      have HNB := Lib.hid (O.number_any _ _ x _ HB.out (by omega))
      rw [bytesV_len] at *
      go_wp2_with fail
      refine HNB.out.mono ?_
      rintro e0 w2 ⟨v2, rfl, hr2, hg2, _⟩
      have HR2 := Lib.hid hr2
      have HG2 := Lib.hid (HG.out.trans hg2)
      clear hr2 hg2
      go_wp2
      go_roundw
      case rel =>
        refine ⟨j + 1, by omega, by go_num, ?_, HG2.out⟩
        rw [HNJ.out]
        exact HR2.out
      case measure => simp only [intOf]; omega
    · have hjj : j = 5 := by omega
      subst hjj
      have d1 : decide (((5 : Nat) : Int) < 5) = false := by decide
      rw [show (numsE e).take 5 = numsE e from rfl] at HB ⊢
      have h5 := H5.out
      rw [show (numsE e).length = 5 from rfl] at h5
      generalize hXe : numsB (numsE e) = X at *
      have H9 := Lib.hid h5
      have cp := (R5.out.grown0 HG.out).cell (j := 0) rfl
      clear h5
      go_wp2_with (refine wpList_bytesOf _ rfl _ rfl e.path rfl (by have := HL.out.1; omega) ?_; intro v2 w2 hr2 hg2; have HG2 := Lib.hid (HG.out.trans hg2); have HR2 := Lib.hid hr2; have HB2 := Lib.hid (HB.out.grown0 hg2); clear hr2 hg2 cp)
      refine (O.bytes_any _ _ X e.path _ HB2.out HR2.out (by have := H9.out; omega) (by have := HL.out.1; omega)).mono ?_
      rintro e0 w3 ⟨v3, rfl, hr3, hg3, _⟩
      have HR3 := Lib.hid (show Rd w3 v3 (bytesV (X ++ textB e.path)) by rw [textB, ← List.append_assoc]; exact hr3)
      have HG3 := Lib.hid (HG2.out.trans hg3)
      clear hr3 hg3
      have cq := (R5.out.grown0 HG3.out).cell (j := 4) rfl
      go_wp2_with (refine wpList_bytesOf _ rfl _ rfl e.to rfl (by have := HL.out.2; omega) ?_; intro v4 w4 hr4 hg4; have HG4 := Lib.hid (HG3.out.trans hg4); have HR4 := Lib.hid hr4; have HB4 := Lib.hid (HR3.out.grown0 hg4); clear hr4 hg4 cq)
      refine (O.bytes_any _ _ (X ++ textB e.path) e.to _ HB4.out HR4.out (by have := H9.out; have := textB_len e.path _ HL.out.1 (Nat.le_refl _); rw [List.length_append]; omega) (by have := HL.out.2; omega)).mono ?_
      rintro e1 w5 ⟨v5, rfl, hr5, hg5, _⟩
      have HR5 := Lib.hid (show Rd w5 v5 (bytesV (entB e)) by rw [HX.out, show textB e.to = enc e.to.length ++ e.to from rfl, ← List.append_assoc]; exact hr5)
      have HG5 := Lib.hid (G6.out.trans (HG4.out.trans hg5))
      clear hr5 hg5
      go_wp2
      go_ret
      exact ⟨_, rfl, HR5.out, HG5.out⟩

set_option maxRecDepth 100000 in
set_option maxHeartbeats 8000000 in
theorem encode_any (v : Value) (l : List En) (m : Nat) (w : World) (hr : RdE w v l) (hm : Lens l m) (hmb : m ≤ 1000000) (hnb : l.length ≤ 100000) :
    Calls Tryd.prog 27 #[v] w (EncOut l w) := by
  obtain ⟨A, c, rfl⟩ := hr.form
  have HF := Lib.hid (fine_any _ m l w hr hm (by omega))
  have HBD := Lib.hid (fun k => entsB_bound l m k hm hmb hnb)
  have HX := Lib.hid (show encE l = numB (l.length : Int) ++ entsB l from rfl)
  have H6 := Lib.hid (numB_len (l.length : Int))
  have HM := Lib.hid hm
  have HMB := Lib.hid hmb
  obtain ⟨n, hn⟩ : ∃ n, l.length = n := ⟨_, rfl⟩
  have HN := Lib.hid hn
  have HR := Lib.hid hr
  rw [hn] at HF HX H6 HR hnb ⊢
  clear hr hm hmb hn
  cases hf : fineE l
  · rw [hf] at HF
    go_enter Tryd.func27, Tryd.ntmps27
    go_wp2_with fail
    refine HF.out.mono ?_
    rintro e1 w1 ⟨rfl, hg⟩
    have HG := Lib.hid hg
    clear hg HF
    go_wp2
    refine bodyPost_ret (results_tmp2 rfl _ _ _) rfl ⟨_, _, rfl, HG.out, .inr ⟨hf, rfl, Rd.nil _⟩⟩
  · rw [hf] at HF
    go_enter Tryd.func27, Tryd.ntmps27
    go_wp2_with fail
    refine HF.out.mono ?_
    rintro e1 w1 ⟨rfl, hg⟩
    have HG := Lib.hid hg
    clear hg HF
    go_wp2_with fail
    refine (number_ownE _ _).mono ?_
    rintro e2 w2 ⟨v2, rfl, ho, hg2⟩
    have HO := Lib.hid (own_lowE (base' := w.heap.size) ho HG.out.size)
    have HG2 := Lib.hid (HG.out.trans hg2)
    clear ho hg2 HG
    generalize hY : numB (n : Int) = Y at *
    clear hY
    go_wp2
    go_loopw [4, 15] (fun b i W => ∃ k : Nat, k ≤ n ∧ i = .int .i64 k ∧ W.ownsRow w.heap.size 5 1 b (Y ++ entsB (l.take k)).length (bytesV (Y ++ entsB (l.take k))) ∧ w.grownBy W none) (fun _ i _ => n - (intOf i).toNat)
    case atStart => exact ⟨0, Nat.zero_le _, rfl, by simpa [entsB] using HO.out, HG2.out⟩
    case round =>
      obtain ⟨k, hk, rfl, ho, hg⟩ := hrel
      have HO3 := Lib.hid ho
      have HG3 := Lib.hid hg
      clear ho hg
      by_cases hlt : k < n
      · have d0 : decide ((k : Int) < (n : Int)) = true := by simp; omega
        have hkl : k < l.length := by rw [HN.out]; exact hlt
        obtain ⟨ad, rfl, c0, c1, c2, c3, c4, c5, c6⟩ := (HR.out.grown0 HG3.out).step hkl
        have HNX := Lib.hid (entsB_next l k hkl)
        have HLN := Lib.hid (HM.out _ (show l.getD k default ∈ l by simp [List.getElem?_eq_getElem hkl]))
        have HL2 := Lib.hid (show (Y ++ entsB (l.take k)).length ≤ 300000000000 by have := HBD.out k; have := H6.out; rw [List.length_append]; omega)
        generalize l.getD k default = t at *
        generalize hXe : Y ++ entsB (l.take k) = X at *
        have HXE := Lib.hid hXe
        clear hXe
        go_wp2_with fail
        refine (encodeOne_any t _ m HLN.out HMB.out).mono ?_
        rintro e3 w3 ⟨v3, rfl, hr3, hg3⟩
        have HG4 := Lib.hid ((grown_alloc (grown_refl wr _) (.cells (enC t).toArray 38)).trans hg3)
        have HR3 := Lib.hid hr3
        have HO4 := Lib.hid (own_keep8 HO3.out HG4.out)
        clear hr3 hg3 c0 c1 c2 c3 c4 c5 c6
        go_wp2_with (at_builtin; refine wpList_append_bytes _ rfl _ _ rfl w.heap.size _ X.length (bytesV X) rfl HO4.out _ (entB t) rfl HR3.out (by have := entB_len t m HLN.out HMB.out; have := HMB.out; have := HL2.out; omega) (HG3.out.trans HG4.out).size ?_; intro v7 w7 ho7 hg7 hat7; have HO7 := Lib.hid (own_app ho7); have HG7 := Lib.hid (grown_new (HG3.out.trans HG4.out) hg7 (fun r e => (HO4.out.lt r e).1)); clear ho7 hg7 hat7)
        go_roundw
        case rel =>
          refine ⟨k + 1, by omega, by go_num, ?_, HG7.out⟩
          rw [HNX.out, ← List.append_assoc, HXE.out]
          exact HO7.out
        case measure => simp only [intOf]; omega
      · have hkn : k = n := by omega
        subst hkn
        have d0 : decide ((k : Int) < (k : Int)) = false := decide_eq_false (by omega)
        have hw : l.take k = l := by rw [← HN.out, List.take_length]
        rw [hw, ← HX.out] at HO3
        go_wp2
        refine bodyPost_ret (results_tmp2 rfl _ _ _) rfl ⟨_, _, rfl, HG3.out, .inl ⟨hf, rfl, Rd.of_own HO3.out⟩⟩
theorem has_encode : HasEncode := fun v l w hr hm _ hl => encode_any v l 300 w hr hm (by decide) (by omega)
end Go.Proofs.YtiakkfcjdmecdaaDoor
