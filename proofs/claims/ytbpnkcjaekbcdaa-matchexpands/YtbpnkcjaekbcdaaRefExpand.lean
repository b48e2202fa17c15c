/-
  The document's Expand over this program.
-/
import Derived.Test.YtbpnkcjaekbcdaaTokExpand
namespace Go.Proofs.Ytbpnkcjaekbcdaa
open Go.RowKit

/-- Ahead of a round of the inner loop. -/
structure Cop2 (w W : World) (gT : Nat) (t : Tok) (n : Nat) (v : Value) (out : List UInt8) : Prop where
  own : W.ownsRow w.heap.size 5 1 v n (bytesV out)
  row : Row W gT 30 (tokC t)
  ne : v.ownBlock ≠ some gT
  grow : w.grownBy W none

set_option maxHeartbeats 4000000 in
theorem refExpand_any (l : List Tok) (v : Value) (w : World) (hv : RdT w v l) (hl : l.length ≤ 100000) :
    Calls Try.prog 14 #[v] w (ExpOut w l) := by
  obtain ⟨A, c, rfl⟩ := hv.form
  have HV := Lib.hid hv
  have HL := Lib.hid hl
  clear hv hl
  obtain ⟨n, hn⟩ : ∃ n, l.length = n := ⟨_, rfl⟩
  have HN := Lib.hid hn
  rw [hn] at HL HV ⊢
  clear hn
  go_enter Try.func14, Try.ntmps14
  go_wp2
  go_loopw [5, 4] (fun i s W => ∃ (k : Nat) (out : List UInt8), k ≤ n ∧ i = .int .i64 k ∧ Exp w W l k s out) (fun i _ _ => n - (intOf i).toNat)
  case atStart => exact ⟨0, [], Nat.zero_le _, rfl, World.ownsRow_nil _ _ _ _, Below.refl _ _, rfl, by simp⟩
  case round =>
    obtain ⟨k, out, hk, rfl, hx⟩ := hrel
    by_cases hlt : k < n
    · have hkl : k < l.length := by rw [HN.out]; exact hlt
      have hnn := HL.out
      generalize wr = wo at *
      obtain ⟨ad, t, rfl, ht, c0, c1, c2⟩ := (HV.out.grown0 (below_grown hx.low)).tok hkl
      obtain ⟨A4, cp4, hf⟩ := (Rd.of_own hx.own).form
      rw [bytesV_len] at hf
      subst hf
      have heq : expand l = expandFrom out (t :: l.drop (k + 1)) := by rw [hx.eq, List.drop_eq_getElem_cons hkl, ht]
      rw [expandFrom] at heq
      have HX := Lib.hid hx
      have HR := Lib.hid (fun w => refRight_any t w)
      have RN := Lib.hid (Row.new wo 30 (tokC t))
      have HGA := Lib.hid (grown_alloc (grown_refl wo none) (.cells (tokC t).toArray 30))
      have HNE := Lib.hid (show (Value.slice A4 out.length cp4).ownBlock ≠ some wo.heap.size from fun e => by have := (hx.own.lt _ e).2; omega)
      have hsm := hx.small
      clear hx ht
      go_wp2_with fail
      refine (HR.out _).mono ?_
      rintro e w1 ⟨rfl, hg1⟩
      have R1 := RN.out.grown0 hg1
      have HG1 := Lib.hid (HGA.out.trans hg1)
      have d0 := R1.cell (j := 0) rfl
      have d1 := R1.cell (j := 1) rfl
      have d2 := R1.cell (j := 2) rfl
      have R1 := Lib.hid R1
      clear hg1 c0 c1 c2 RN HGA HR
      cases hr : right t with
      | false =>
        rw [if_pos (.inl hr)] at heq
        have HE := Lib.hid heq
        clear heq
        go_wp2
        refine bodyPost_ret (results_tmp2 rfl _ _ _) rfl ?_
        refine ⟨_, by rw [HE.out]; rfl, ?_, below_grown (below_grown0 HX.out.low (Nat.le_refl _) HG1.out)⟩
        rw [HE.out]
        exact Rd.nil _
      | true =>
        by_cases hb : (out.length : Int) < t.back
        · rw [if_pos (.inr hb)] at heq
          have hbd : decide ((out.length : Int) < t.back) = true := by simpa using hb
          have HE := Lib.hid heq
          clear heq hb
          go_wp2
          refine bodyPost_ret (results_tmp2 rfl _ _ _) rfl ?_
          refine ⟨_, by rw [HE.out]; rfl, ?_, below_grown (below_grown0 HX.out.low (Nat.le_refl _) HG1.out)⟩
          rw [HE.out]
          exact Rd.nil _
        · have hbd : decide ((out.length : Int) < t.back) = false := by simpa using hb
          rw [if_neg (by rintro (h | h); rw [hr] at h; cases h; exact hb h)] at heq
          have hrl := right_len hr
          have HPL := Lib.hid (putTok_len out t hr)
          obtain ⟨C, N0, B0⟩ := t
          simp only at hrl hb d0 d1 d2 hbd
          obtain ⟨N, rfl⟩ : ∃ N : Nat, N0 = (N : Int) := ⟨N0.toNat, by omega⟩
          obtain ⟨B, rfl⟩ : ∃ B : Nat, B0 = (B : Int) := ⟨B0.toNat, by omega⟩
          have hN : N ≤ 258 := by omega
          have hBo : B ≤ out.length := by omega
          obtain ⟨M, hts, hM⟩ : ∃ M : Nat, tsize ⟨C, N, B⟩ = (M : Int) ∧ (N = 0 → M = 1) ∧ (N ≠ 0 → N = M ∧ 3 ≤ N) := ⟨(tsize ⟨C, N, B⟩).toNat, by unfold tsize; simp only; omega, by intro h; unfold tsize; simp only; omega, by intro h; unfold tsize; simp only; omega⟩
          have HB := Lib.hid (show N ≠ 0 → 1 ≤ B by omega)
          rw [hts] at heq HPL
          clear hb hrl hts
          by_cases hN0 : N = 0
          · subst hN0
            obtain rfl := hM.1 rfl
            have heq : expand l = if 65536 < (out.length : Int) + 1 then ([], 7) else expandFrom (putTok out ⟨C, 0, B⟩) (l.drop (k + 1)) := heq
            have HPL : Hid (((putTok out ⟨C, 0, B⟩).length : Int) = out.length + 1) := HPL
            by_cases h7 : 65536 < (out.length : Int) + 1
            · rw [if_pos h7] at heq
              have h7d : decide (65536 < (out.length : Int) + 1) = true := by simpa using h7
              have HE := Lib.hid heq
              clear heq h7
              go_wp2
              refine bodyPost_ret (results_tmp2 rfl _ _ _) rfl ?_
              refine ⟨_, by rw [HE.out]; rfl, ?_, below_grown (below_grown0 HX.out.low (Nat.le_refl _) HG1.out)⟩
              rw [HE.out]
              exact Rd.nil _
            · rw [if_neg h7] at heq
              have h7d : decide (65536 < (out.length : Int) + 1) = false := by simpa using h7
              have HE := Lib.hid heq
              have HO := Lib.hid (own_grown HX.out.own HG1.out)
              have HSZ := Lib.hid (show w.heap.size ≤ w1.heap.size by have := HX.out.low.size; have := HG1.out.size; omega)
              have HSM := Lib.hid (show (putTok out ⟨C, 0, B⟩).length ≤ 65536 by have := HPL.out; omega)
              clear heq h7
              go_wp2_with (at_builtin; go_loud (refine wpList_append_bytes _ rfl _ _ rfl w.heap.size _ out.length (bytesV out) rfl (own_grown HO.out (grown_alloc (grown_refl _ none) _)) _ [C] rfl (Rd.byteAt _ _ _ rfl) (by simp; omega) (Nat.le_trans HSZ.out (by simp)) ?_; intro v' w3 ho3 hg3 hat3; have HNX := Lib.hid (show Exp w w3 l (k + 1) v' (putTok out ⟨C, 0, B⟩) from ⟨by rw [show putTok out ⟨C, 0, B⟩ = out ++ [C] from rfl, bytesV_app, List.length_append]; exact ho3, below_step (below_alloc (below_grown0 HX.out.low (Nat.le_refl _) HG1.out) (Nat.le_refl _) _) (Nat.le_refl _) hg3 (fun r e => (HO.out.lt r e).1), HE.out, HSM.out⟩); have R3 := ((R1.out.alloc (.cells #[.int .u8 (C.toNat : Int)] 5)).grown hg3 (fun e => HNE.out e.symm)); have d1' := R3.cell (j := 1) rfl; clear ho3 hg3 hat3 d0 d1 d2 R3))
              go_loopw [7, 4] (fun i u V => i = .int .i64 0 ∧ u = v' ∧ V = w3) (fun _ _ _ => 0)
              case atStart => exact ⟨rfl, rfl, rfl⟩
              case round =>
                obtain ⟨rfl, rfl, rfl⟩ := hrel
                go_wp2
                go_roundw
                case rel => exact ⟨k + 1, _, by omega, rfl, HNX.out⟩
                case measure => simp only [intOf]; omega
          · obtain ⟨rfl, hM3⟩ := hM.2 hN0
            have hp : putTok out ⟨C, N, B⟩ = copyS B out N := by rw [putTok, if_neg (by simpa using hN0)]; rfl
            rw [hp] at heq HPL
            have hM0 : ((N : Int) == 0) = false := by simpa using hN0
            have hM1 : decide ((N : Int) ≤ 1) = false := by simp; omega
            have hB1 := HB.out hN0
            by_cases h7 : 65536 < (out.length : Int) + (N : Int)
            · rw [if_pos h7] at heq
              have h7d : decide (65536 < (out.length : Int) + (N : Int)) = true := by simpa using h7
              have HE := Lib.hid heq
              clear heq h7
              go_wp2
              all_goals first
                | omega
                | (refine bodyPost_ret (results_tmp2 rfl _ _ _) rfl ?_
                   refine ⟨_, by rw [HE.out]; rfl, ?_, below_grown (below_grown0 HX.out.low (Nat.le_refl _) HG1.out)⟩
                   rw [HE.out]
                   exact Rd.nil _)
            · rw [if_neg h7] at heq
              have h7d : decide (65536 < (out.length : Int) + (N : Int)) = false := by simpa using h7
              have HE := Lib.hid heq
              have HSM := Lib.hid (show (copyS B out N).length ≤ 65536 by have := HPL.out; omega)
              have HC0 := Lib.hid (show Cop2 w w1 wo.heap.size ⟨C, N, B⟩ (out.length + 0) (.slice A4 out.length cp4) (copyS B out 0) from
                ⟨own_grown HX.out.own HG1.out, R1.out, HNE.out, below_grown (below_grown0 HX.out.low (Nat.le_refl _) HG1.out)⟩)
              clear heq h7
              go_wp2
              generalize hG6 : wo.heap.size = g6 at *
              go_loopw [7, 4] (fun i u V => ∃ q : Nat, q ≤ N ∧ i = .int .i64 q ∧ Cop2 w V g6 ⟨C, N, B⟩ (out.length + q) u (copyS B out q)) (fun i _ _ => N - (intOf i).toNat)
              case atStart => exact ⟨0, Nat.zero_le _, rfl, HC0.out⟩
              case round =>
                obtain ⟨q, hq, rfl, hcop⟩ := hrel
                have t1 := hcop.row.cell (j := 1) rfl
                have t2 := hcop.row.cell (j := 2) rfl
                by_cases hltq : q < N
                · have hown := hcop.own
                  have hcl := copyS_len B out q
                  obtain ⟨gr, cp, rfl⟩ : ∃ gr cp, u4 = .slice (some ⟨gr, 0, none⟩) (out.length + q) cp := by
                    rcases hown.2 with ⟨_, e⟩ | ⟨gr, cp, cur, e, _⟩
                    · omega
                    · exact ⟨gr, cp, e⟩
                  have hidx : ((out.length + q : Nat) : Int) - (B : Int) = ((out.length + q - B : Nat) : Int) := by omega
                  have hlt2 : out.length + q - B < out.length + q := by omega
                  have hsmall : out.length + q ≤ 200000 := by omega
                  obtain ⟨x, hx⟩ : ∃ x, (copyS B out q).getD ((copyS B out q).length - B) 0 = x := ⟨_, rfl⟩
                  have hnext : copyS B out (q + 1) = copyS B out q ++ [x] := by rw [copyS, hx]
                  have cb : wr.cell? ⟨gr, out.length + q - B, none⟩ = some (.int .u8 (x.toNat : Int)) := by
                    have e := hown.cellAt (out.length + q - B) (by omega)
                    rw [e, ← hx, hcl]
                    exact bytesV_at _ _ (by rw [hcl]; exact hlt2)
                  have HCOP := Lib.hid hcop
                  have HNX := Lib.hid hnext
                  have HSZ := Lib.hid (show w.heap.size ≤ wr.heap.size from hcop.grow.size)
                  clear hcop hown hcl hx hnext
                  generalize hP : out.length + q - B = P at *
                  go_wp2_with (at_builtin; go_loud (refine wpList_append_bytes _ rfl _ _ rfl w.heap.size _ (out.length + q) (bytesV (copyS B out q)) rfl (own_grown HCOP.out.own (grown_alloc (grown_refl _ none) _)) _ [x] rfl (Rd.byteAt _ _ _ rfl) (by simp; omega) (Nat.le_trans HSZ.out (by simp)) ?_; intro v' w3 ho3 hg3 hat3; have HN1 := Lib.hid (show Cop2 w w3 g6 ⟨C, N, B⟩ (out.length + (q + 1)) v' (copyS B out (q + 1)) from ⟨by rw [HNX.out, bytesV_app]; exact ho3, (HCOP.out.row.alloc _).grown hg3 (fun e => HCOP.out.ne e.symm), by (rcases hat3 with e | e; (rw [e]; exact HCOP.out.ne); (rw [e]; intro e2; injection e2 with e2; rw [World.size_alloc] at e2; have := HCOP.out.row.lt; omega)), grown_new (grown_alloc HCOP.out.grow _) hg3 (fun r e => (HCOP.out.own.lt r e).1)⟩); clear ho3 hg3 hat3 cb))
                  go_roundw
                  case rel => exact ⟨q + 1, by omega, rfl, HN1.out⟩
                  case measure => simp only [intOf]; omega
                · have hqn : q = N := by omega
                  subst hqn
                  have HNX := Lib.hid (show Exp w wr l (k + 1) u4 (putTok out ⟨C, q, B⟩) from ⟨by
                    rw [hp, copyS_len]; exact hcop.own, grown_below hcop.grow, by rw [hp]; exact HE.out, by rw [hp]; exact HSM.out⟩)
                  clear hcop
                  go_wp2
                  go_roundw
                  case rel => exact ⟨k + 1, _, by omega, rfl, HNX.out⟩
                  case measure => simp only [intOf]; omega
    · have hkn : k = n := by omega
      subst hkn
      have heq : expand l = (out, 0) := by rw [hx.eq, List.drop_eq_nil_of_le (by rw [HN.out]; exact Nat.le_refl _)]; rfl
      go_wp2
      refine bodyPost_ret (results_tmp2 rfl _ _ _) rfl ?_
      refine ⟨_, by rw [heq]; rfl, ?_, below_grown hx.low⟩
      rw [heq]
      exact Rd.of_own hx.own
end Go.Proofs.Ytbpnkcjaekbcdaa
