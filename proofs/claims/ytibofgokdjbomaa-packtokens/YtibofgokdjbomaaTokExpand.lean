/-
  match's Expand over this program.
-/
import Derived.Test.YtibofgokdjbomaaTokPut
namespace Go.Proofs.Ytibofgokdjbomaa
set_option maxRecDepth 1000000
open Go.RowKit

/-- What Expand answers. -/
def ExpOut (w : World) (l : List Tok) (e : Ending) (w' : World) : Prop :=
  ∃ v, e = .returned (.tuple #[v, .int .i64 ((expand l).2 : Int)]) ∧ Rd w' v (bytesV (expand l).1) ∧ w.grownBy w' none

/-- Ahead of a round. -/
structure Exp (w W : World) (l : List Tok) (k : Nat) (v : Value) (out : List UInt8) : Prop where
  own : W.ownsRow w.heap.size 5 1 v out.length (bytesV out)
  low : Below w.heap.size w W
  eq : expand l = expandFrom out (l.drop k)
  small : out.length ≤ 65536

set_option maxHeartbeats 8000000 in
theorem expand_any (l : List Tok) (v : Value) (w : World) (hv : RdT w v l) (hl : l.length ≤ 100000) :
    Calls Try.prog 17 #[v] w (ExpOut w l) := by
  obtain ⟨A, c, rfl⟩ := hv.form
  have HV := Lib.hid hv
  have HL := Lib.hid hl
  clear hv hl
  obtain ⟨n, hn⟩ : ∃ n, l.length = n := ⟨_, rfl⟩
  have HN := Lib.hid hn
  rw [hn] at HL HV ⊢
  clear hn
  go_enter Try.func17, Try.ntmps17
  go_wp2
  go_loopw [9, 4] (fun i s W => ∃ (k : Nat) (out : List UInt8), k ≤ n ∧ i = .int .i64 k ∧ Exp w W l k s out) (fun i _ _ => n - (intOf i).toNat)
  case atStart => exact ⟨0, [], Nat.zero_le _, rfl, World.ownsRow_nil _ _ _ _, Below.refl _ _, rfl, by simp⟩
  case round =>
    obtain ⟨k, out, hk, rfl, hx⟩ := hrel
    by_cases hlt : k < n
    · have hkl : k < l.length := by rw [HN.out]; exact hlt
      have hnn := HL.out
      obtain ⟨ad, t, rfl, ht, c0, c1, c2⟩ := (HV.out.grown0 (below_grown hx.low)).tok hkl
      obtain ⟨A4, cp4, hf⟩ := (Rd.of_own hx.own).form
      rw [bytesV_len] at hf
      subst hf
      have heq : expand l = expandFrom out (t :: l.drop (k + 1)) := by rw [hx.eq, List.drop_eq_getElem_cons hkl, ht]
      rw [expandFrom] at heq
      have HX := Lib.hid hx
      have HR := Lib.hid (fun w => right_any t w)
      have HS := Lib.hid (fun w => size_any t w)
      have RN := Lib.hid (Row.new wr 37 (tokC t))
      have HGA := Lib.hid (grown_alloc (grown_refl wr none) (.cells (tokC t).toArray 37))
      have hsm := hx.small
      clear hx ht
      go_wp2_with fail
      refine (HR.out _).mono ?_
      rintro e w1 ⟨rfl, hg1⟩
      have R1 := RN.out.grown0 hg1
      have HG1 := Lib.hid (HGA.out.trans hg1)
      have d0 := R1.cell (j := 0) rfl
      have d1 := R1.cell (j := 1) rfl
      have d2 := R1.cell (j := 2) rfl
      have R1 := Lib.hid R1
      clear hg1 c0 c1 c2 RN HGA HR
      cases hr : right t with
      | false =>
        rw [if_pos (.inl hr)] at heq
        have HE := Lib.hid heq
        clear heq
        go_wp2
        refine bodyPost_ret (results_tmp2 rfl _ _ _) rfl ?_
        refine ⟨_, by rw [HE.out]; rfl, ?_, below_grown (below_grown0 HX.out.low (Nat.le_refl _) HG1.out)⟩
        rw [HE.out]
        exact Rd.nil _
      | true =>
        by_cases hb : (out.length : Int) < t.back
        · rw [if_pos (.inr hb)] at heq
          have hbd : decide ((out.length : Int) < t.back) = true := by simpa using hb
          have HE := Lib.hid heq
          clear heq hb
          go_wp2
          refine bodyPost_ret (results_tmp2 rfl _ _ _) rfl ?_
          refine ⟨_, by rw [HE.out]; rfl, ?_, below_grown (below_grown0 HX.out.low (Nat.le_refl _) HG1.out)⟩
          rw [HE.out]
          exact Rd.nil _
        · have hbd : decide ((out.length : Int) < t.back) = false := by simpa using hb
          rw [if_neg (by rintro (h | h); rw [hr] at h; cases h; exact hb h)] at heq
          have HRL := Lib.hid (right_len hr)
          have HPL := Lib.hid (putTok_len out t hr)
          have hts : 1 ≤ tsize t ∧ tsize t ≤ 258 := by have := right_len hr; unfold tsize; omega
          have HBK := Lib.hid (show t.back ≤ out.length by omega)
          clear hb
          go_wp2_with fail
          refine (HS.out _).mono ?_
          rintro e w2 ⟨rfl, hg2⟩
          have HG2 := Lib.hid (HG1.out.trans hg2)
          have R2 := R1.out.grown0 hg2
          have d0' := R2.cell (j := 0) rfl
          have d1' := R2.cell (j := 1) rfl
          have d2' := R2.cell (j := 2) rfl
          clear d0 d1 d2 R2 R1 HG1 hg2 hbd HS
          have hwr : IntKind.i64.wrap ((out.length : Int) + tsize t) = (out.length : Int) + tsize t := by rw [IntKind.wrap_i64]; omega
          by_cases h7 : 65536 < (out.length : Int) + tsize t
          · rw [if_pos h7] at heq
            have h7d : decide (65536 < (out.length : Int) + tsize t) = true := by simpa using h7
            have HE := Lib.hid heq
            clear heq h7
            go_wp2
            refine bodyPost_ret (results_tmp2 rfl _ _ _) rfl ?_
            refine ⟨_, by rw [HE.out]; rfl, ?_, below_grown (below_grown0 HX.out.low (Nat.le_refl _) HG2.out)⟩
            rw [HE.out]
            exact Rd.nil _
          · rw [if_neg h7] at heq
            have h7d : decide (65536 < (out.length : Int) + tsize t) = false := by simpa using h7
            have HE := Lib.hid heq
            have HSM := Lib.hid (show (putTok out t).length ≤ 65536 by have := HPL.out; omega)
            have HP := Lib.hid (put_any w.heap.size _ out t w2 (own_grown HX.out.own HG2.out) hr HBK.out (by omega) (by have := HX.out.low.size; have := HG2.out.size; omega))
            clear heq h7
            go_wp2_with fail
            refine HP.out.mono ?_
            rintro e w3 ⟨v3, rfl, ho3, hb3⟩
            have HNX := Lib.hid (show Exp w w3 l (k + 1) v3 (putTok out t) from ⟨ho3, below_trans (below_grown0 HX.out.low (Nat.le_refl _) HG2.out) hb3, HE.out, HSM.out⟩)
            clear ho3 hb3 HP d0' d1' d2' h7d hwr
            go_wp2
            go_roundw
            case rel => exact ⟨k + 1, _, by omega, rfl, HNX.out⟩
            case measure => simp only [intOf]; omega
    · have hkn : k = n := by omega
      subst hkn
      have heq : expand l = (out, 0) := by rw [hx.eq, List.drop_eq_nil_of_le (by rw [HN.out]; exact Nat.le_refl _)]; rfl
      go_wp2
      refine bodyPost_ret (results_tmp2 rfl _ _ _) rfl ?_
      refine ⟨_, by rw [heq]; rfl, ?_, below_grown hx.low⟩
      rw [heq]
      exact Rd.of_own hx.own
end Go.Proofs.Ytibofgokdjbomaa
