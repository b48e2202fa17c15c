/-
  entry.Decode over this program: what octet.List and Decode answer.
-/
import Derived.Test.YtiakkfcjdmecdaaDoorEnDecP
namespace Go.Proofs.YtiakkfcjdmecdaaDoor
set_option maxRecDepth 1000000
open Go.RowKit

theorem run_eql_func_nilE (k : Nat) (W : World) : Sem.run Tryd.prog (binOp .eql 78 (.func (.func k) #[] #[]) .nilFunc) W = .ok (.bool false) W := by
  kernel_rfl
/-- What List answers: the entries that were read, or none behind an error. -/
def LOut (w : World) (g : Nat) (b : List UInt8) (e : Ending) (w' : World) : Prop :=
  ∃ u l' x', e = .returned u ∧ O.Rdr w' g l' x' ∧ w.grownBy w' (some g) ∧ ((x' = 0 ∧ RdE w' u (listOf b).1 ∧ (listOf b).2 = (l', 0)) ∨ (x' ≠ 0 ∧ (listOf b).2.2 ≠ 0))
set_option maxHeartbeats 8000000 in
theorem list_any (g : Nat) (b : List UInt8) (w : World) (h : O.Rdr w g b 0) (hl : b.length ≤ 1000000000) :
    Calls Tryd.prog 52 #[.pointer (some ⟨g, 0, none⟩), .int .i64 1024, .func (.func 53) #[] #[]] w (LOut w g b) := by
  have hf := run_eql_func_nilE 53
  have HN := Lib.hid (O.rnum_at g b 0 1024 w h (by omega))
  have hlt := h.lt
  have hfew := numOf_few b 0 1024 (by decide)
  have herr := numOf_err b 0 1024
  have hlen := O.numOf_len b 0 1024
  have HLO := Lib.hid (show listOf b = entsOf (O.numOf b 0 1024).1 (O.numOf b 0 1024).2 from rfl)
  generalize O.numOf b 0 1024 = p at *
  obtain ⟨cnt, l1, x1⟩ := p
  simp only at hfew herr hlen
  have HC := Lib.hid hfew
  have HERR := Lib.hid herr
  have HL1 := Lib.hid (Nat.le_trans hlen hl)
  have HLT := Lib.hid hlt
  clear h hl hfew herr hlen hlt
  go_enter Tryd.func52, Tryd.ntmps52
  go_wp2_with fail
  refine HN.out.mono ?_
  rintro e w1 ⟨rfl, hr, hg⟩
  have HR := Lib.hid hr
  have HG := Lib.hid hg
  clear hr hg HN
  go_wp2
  go_loopw [8, 9, 16] (fun s _ t W => ∃ j : Nat, j ≤ cnt ∧ t = .int .i64 j ∧ W.ownsRow w.heap.size 38 7 s j (enCs (entsOf j (l1, x1)).1) ∧ O.Rdr W g (entsOf j (l1, x1)).2.1 (entsOf j (l1, x1)).2.2 ∧ (0 < j → (entsOf j (l1, x1)).2.2 = 0) ∧ w.grownBy W (some g)) (fun _ _ t _ => cnt - (intOf t).toNat)
  case atStart => exact ⟨0, Nat.zero_le _, rfl, World.ownsRow_nil _ _ _ _, HR.out, fun h => absurd h (Nat.lt_irrefl _), HG.out⟩
  case round =>
    obtain ⟨j, hj, rfl, hown, hr, hz, hg⟩ := hrel
    have HO := Lib.hid hown
    have HR3 := Lib.hid hr
    have HG3 := Lib.hid hg
    have HZ := Lib.hid hz
    have HJ := Lib.hid hj
    clear hown hr hg hz HR HG
    by_cases hjlt : j < cnt
    · have hcb : cnt ≤ 1024 := by have := HC.out; omega
      have d0 : decide ((j : Int) < (cnt : Int)) = true := by simp; omega
      have HSN := Lib.hid (entsOf_snoc j (l1, x1))
      have hrl := Nat.le_trans (entsOf_rest j (l1, x1)) HL1.out
      have HEN := Lib.hid (entsOf_len j (l1, x1))
      generalize entsOf j (l1, x1) = q at *
      obtain ⟨ql, q2, q3⟩ := q
      have HD := Lib.hid (decodeOne_any g q2 q3 _ HR3.out hrl)
      clear hrl
      go_wp2_with fail
      refine HD.out.mono ?_
      rintro e w2 ⟨rfl, hr2, hg2⟩
      try simp only at HSN
      generalize entOf (q2, q3) = r at *
      obtain ⟨t, r2, r3⟩ := r
      have HR4 := Lib.hid hr2
      have HG4 := Lib.hid (HG3.out.trans hg2)
      have HO2 : Hid (w2.ownsRow w.heap.size 38 7 u8 j (enCs ql)) := Lib.hid (HO.out.kept hg2 (by
        cases hb : u8.ownBlock with
        | none => exact .inl rfl
        | some b =>
          right
          intro e
          injection e with e
          have := (HO.out.lt b hb).1
          have := HLT.out
          omega))
      have HE := Lib.hid (fun o => O.err_at g _ _ (w2.alloc o) (hr2.grown (grown_alloc (grown_refl w2 none) o) (by intro b e; cases e)))
      clear hr2 hg2 HD HR3 HG3 HO
      simp only [enV, enC]
      by_cases h0 : r3 = 0
      · have h1 : (r3 != 0) = false := by rw [h0]; rfl
        go_wp2_with (first
          | (go_at_call 77; refine (HE.out _).mono ?_; rintro e w3 ⟨rfl, rfl⟩)
          | (refine wpList_buildEn rfl _ 38 25 (.inl ⟨rfl, rfl⟩) rfl t rfl ?_)
          | (at_builtin; refine wpList_appEn rfl _ _ 38 25 (.inl ⟨rfl, rfl⟩) rfl w.heap.size _ j (enCs ql) rfl (own_grown7 (own_grown7 HO2.out (grown_alloc (grown_refl _ none) _)) (grown_alloc (grown_refl _ none) _)) _ t rfl (Row.new _ _ (enC t)) (by have := HC.out; omega) (by have := HG4.out.size; simp; omega) ?_; intro g' c' w7 ho7 hg7 hat7; have HO7 := Lib.hid ho7; have HG7 := Lib.hid hg7; clear ho7 hg7 hat7))
        go_roundw
        case rel =>
          have hne := fun r e => (HO2.out.lt r e).1
          refine ⟨j + 1, by omega, by go_num, ?_, ?_, fun _ => by rw [HSN.out]; exact h0, ?_⟩
          · rw [HSN.out, enCs_app, show enCs [t] = enC t by simp [enCs]]
            exact HO7.out
          · rw [HSN.out]
            refine O.Rdr.grown (row := u8.ownBlock) ?_ HG7.out (fun b e => by have := hne b e; have := HLT.out; omega)
            exact (HR4.out.grown (grown_alloc (grown_refl w2 none) _) (by intro b e; cases e)).grown (grown_alloc (grown_refl _ none) _) (by intro b e; cases e)
          · exact grown_rows (HG4.out.trans (grown_none (grown_alloc (grown_alloc (grown_refl _ none) _) _) _)) HG7.out (fun b e => .inr (hne b e))
        case measure => simp only [intOf]; omega
      · have h1 : (r3 != 0) = true := by simpa using h0
        go_wp2_with (go_at_call 77; refine (HE.out _).mono ?_; rintro e w3 ⟨rfl, rfl⟩)
        go_ret
        refine ⟨_, r2, r3, rfl, HR4.out.grown (grown_alloc (grown_refl w2 none) _) (by intro b e; cases e), HG4.out.trans (grown_none (grown_alloc (grown_refl _ none) _) _), .inr ⟨h0, ?_⟩⟩
        rw [HLO.out]
        exact entsOf_bad (j := j + 1) (by omega) (by rw [HSN.out]; exact h0)
    · have hjc : j = cnt := by omega
      subst hjc
      have d0 : decide ((j : Int) < (j : Int)) = false := decide_eq_false (by omega)
      clear hjlt
      rw [← HLO.out] at HO HR3 HZ
      go_wp2
      go_ret
      by_cases hx : (listOf b).2.2 = 0
      · refine ⟨_, (listOf b).2.1, 0, rfl, by rw [← hx]; exact HR3.out, HG3.out, .inl ⟨rfl, RdE.of_own (by rw [HLO.out, entsOf_len]) HO.out, by rw [← hx]⟩⟩
      · exact ⟨_, _, _, rfl, HR3.out, HG3.out, .inr ⟨hx, hx⟩⟩
theorem end_zero {l : List UInt8} {x : Int} : O.endOf l x = 0 ↔ l = [] ∧ x = 0 := by
  unfold O.endOf
  by_cases hx : x = 0
  · subst hx
    by_cases hl : l = []
    · subst hl; simp
    · simp [hl]
  · simp [hx]
set_option maxHeartbeats 4000000 in
theorem decode_any (v : Value) (b : List UInt8) (w : World) (hv : Rd w v (bytesV b)) (hl : b.length ≤ 1000000) :
    Calls Tryd.prog 28 #[v] w (DecOut b w) := by
  have HN := Lib.hid (O.new_any v b w hv (by omega))
  have HL := Lib.hid hl
  obtain ⟨A, c, rfl⟩ := hv.form
  rw [bytesV_len] at *
  generalize b.length = n at HN ⊢
  clear hv hl
  go_enter Tryd.func28, Tryd.ntmps28
  go_wp2_with fail
  refine HN.out.mono ?_
  rintro e w1 ⟨g, rfl, hr, hgs, hg⟩
  have HR := Lib.hid hr
  have HG := Lib.hid hg
  have HGS := Lib.hid hgs
  clear hr hg hgs HN
  go_wp2_with fail
  refine (list_any g b _ HR.out (by have := HL.out; omega)).mono ?_
  rintro e w2 ⟨u, l', x', rfl, hr, hg, hor⟩
  have HR2 := Lib.hid hr
  have HG2 := Lib.hid (grown_own HG.out hg HGS.out)
  have HOR := Lib.hid hor
  clear hr hg hor HR HG
  go_wp2_with fail
  refine (O.end_at g _ _ _ HR2.out).mono ?_
  rintro e w3 ⟨rfl, rfl⟩
  by_cases h0 : O.endOf l' x' = 0
  · obtain ⟨rfl, rfl⟩ := end_zero.1 h0
    rw [h0]
    have hor : RdE w2 u (listOf b).1 ∧ (listOf b).2 = ([], 0) := by
      rcases HOR.out with ⟨_, h1, h2⟩ | ⟨h, _⟩
      · exact ⟨h1, h2⟩
      · exact absurd rfl h
    have HU := Lib.hid hor.1
    have HL2 := Lib.hid hor.2
    have HF := Lib.hid (fine_any u b.length (listOf b).1 w2 hor.1 (listOf_lens b) (by have := HL.out; omega))
    have HDM := Lib.hid (show decM b = if (listOf b).2 = ([], 0) ∧ fineE (listOf b).1 = true then some (listOf b).1 else none from rfl)
    obtain ⟨A2, c2, rfl⟩ := hor.1.form
    clear hor HOR h0
    cases hf : fineE (listOf b).1
    · rw [hf] at HF HDM
      have HD : Hid (decM b = none) := Lib.hid (by rw [HDM.out]; simp)
      generalize (listOf b).1 = L at *
      go_wp2_with fail
      refine HF.out.mono ?_
      rintro e w4 ⟨rfl, hg⟩
      have HG4 := Lib.hid (HG2.out.trans hg)
      clear hg HF
      go_wp2
      exact bodyPost_ret (results_tmp2 rfl _ _ _) rfl ⟨_, _, rfl, HG4.out, .inr ⟨by decide, HD.out, RdE.nil _⟩⟩
    · rw [hf] at HF HDM
      have HD : Hid (decM b = some (listOf b).1) := Lib.hid (by rw [HDM.out, if_pos ⟨HL2.out, rfl⟩])
      generalize (listOf b).1 = L at *
      go_wp2_with fail
      refine HF.out.mono ?_
      rintro e w4 ⟨rfl, hg⟩
      have HG4 := Lib.hid (HG2.out.trans hg)
      have HU4 := Lib.hid (HU.out.grown0 hg)
      clear hg HF
      go_wp2
      exact bodyPost_ret (results_tmp2 rfl _ _ _) rfl ⟨_, _, rfl, HG4.out, .inl ⟨rfl, L, HD.out, HU4.out⟩⟩
  · have h1 : (O.endOf l' x' != 0) = true := by simpa using h0
    have HD : Hid (decM b = none) := Lib.hid (by
      unfold decM
      rw [if_neg]
      rintro ⟨h2, _⟩
      rcases HOR.out with ⟨h3, _, h4⟩ | ⟨_, h4⟩
      · rw [h4] at h2
        injection h2 with h2 _
        exact h0 (end_zero.2 ⟨h2, h3⟩)
      · rw [h2] at h4
        exact h4 rfl)
    have HZ := Lib.hid h0
    generalize O.endOf l' x' = z at *
    clear HOR HR2
    go_wp2
    exact bodyPost_ret (results_tmp2 rfl _ _ _) rfl ⟨_, _, rfl, HG2.out, .inr ⟨HZ.out, HD.out, RdE.nil _⟩⟩
theorem has_decode (n : Nat) (hn : n ≤ 1000000) : HasDecode n := fun v b w hr hl => decode_any v b w hr (Nat.le_trans hl hn)
end Go.Proofs.YtiakkfcjdmecdaaDoor
