/-
  The statements' Files over this program: are files the same?
-/
import Derived.Test.YtiakkfcjdmecdaaDoorEnFl
import Derived.Test.YtiakkfcjdmecdaaDoorBytOps
import Derived.Test.YtiakkfcjdmecdaaDoorEnSame
namespace Go.Proofs.YtiakkfcjdmecdaaDoor
set_option maxRecDepth 1000000
open Go.RowKit

theorem wpList_strW {ops : Array Oper} {rest : List Oper} {o : Oper} {a : Act} {w : World} {Q : Exit → Act → World → Prop} (hw : Region.wanted o (yielded ops a.tmps) = true) (x : Operand) (ho : o.op = .convert 45 9 x) (l : List UInt8) (hx : Rd w (a.eval x) (bytesV l))
    (h : wpList Tryd.prog ops Q rest (a.put o.dst (.string (bts l))) w) : wpList Tryd.prog ops Q (o :: rest) a w :=
  BigFrame.wpList_want hw fun _ hK => by
    have hrun := ex_str ho hx
    unfold Oper.wp
    rw [hrun, Oper.upon_value]
    exact hK _ _ h
theorem Fl.ext' {a b : Fl} (h1 : a.path = b.path) (h2 : a.kind = b.kind) (h3 : a.mode = b.mode) (h4 : a.time = b.time) (h5 : a.to = b.to) (h6 : a.data = b.data) : a = b := by
  cases a; cases b; simp_all
theorem bts_eq (a b : List UInt8) : ((bts a).toList == (bts b).toList) = decide (a = b) := by
  rw [bts_list, bts_list, Bool.eq_iff_iff]
  simp
theorem int_eq (a b : Int) : (a == b) = decide (a = b) := rfl

set_option maxHeartbeats 16000000 in
theorem files_any (A : Option Addr) (n c : Nat) (l : List Fl) (B : Option Addr) (n2 c2 : Nat) (m : List Fl) (w : World) (hr : RdF w (.slice A n c) l) (hr2 : RdF w (.slice B n2 c2) m) :
    Calls Tryd.prog 31 #[.slice A n c, .slice B n2 c2] w (fun e w' => ∃ b : Bool, e = .returned (.bool b) ∧ (b = true ↔ l = m) ∧ w.grownBy w' none) := by
  have hln := hr.len.1
  have hlm := hr2.len.1
  have hmx : n ≤ 9223372036854775807 := by have := hr.len.2; simp only [maxLen] at this; omega
  subst hln hlm
  have HR := Lib.hid hr
  have HR2 := Lib.hid hr2
  clear hr hr2
  go_enter Tryd.func31, Tryd.ntmps31
  by_cases hlm : l.length = m.length
  · have e1 : ((l.length : Int) == (m.length : Int)) = true := beq_iff_eq.2 (by omega)
    have e2 : ((l.length : Int) != (m.length : Int)) = false := by rw [bne, e1]; rfl
    have HLM := Lib.hid hlm
    clear hlm
    go_wp2
    go_loopw [15] (fun i W => ∃ k : Nat, i = .int .i64 k ∧ k ≤ l.length ∧ l.take k = m.take k ∧ w.grownBy W none) (fun i _ => l.length - (intOf i).toNat)
    case atStart => exact ⟨0, rfl, Nat.zero_le _, by simp, grown_refl _ _⟩
    case round =>
      obtain ⟨k, rfl, hk, ht, hg⟩ := hrel
      have HT := Lib.hid ht
      have HG := Lib.hid hg
      clear ht hg
      by_cases h : k < l.length
      · have d0 : decide ((k : Int) < (l.length : Int)) = true := by simp; omega
        have hkm : k < m.length := by have := HLM.out; omega
        have d9 : k < m.length := hkm
        obtain ⟨ad, rfl, A3, c3, hd1, x0, x1, x2, x3, x4, x5⟩ := (HR.out.grown0 HG.out).step h
        have HD1 := Lib.hid hd1
        have HN := Lib.hid (And.intro (takeF l k h) (takeF m k hkm))
        have HNE := Lib.hid (fun (hlm : l = m) => (show l.getD k default = m.getD k default by rw [hlm]))
        generalize hfe : l.getD k default = f at *
        obtain ⟨ad2, rfl, A4, c4, hd2, y0, y1, y2, y3, y4, y5⟩ := (HR2.out.grown0 (grown_alloc HG.out (.cells #[.string (bts f.path), .int .i64 f.kind, .int .i64 f.mode, .int .i64 f.time, .slice A3 f.data.length c3, .string (bts f.to)] 52))).step hkm
        have HD2 := Lib.hid hd2
        clear hd1 hd2
        generalize m.getD k default = g at *
        clear hfe
        have HX := Lib.hid (show ¬ f = g → ¬ l = m from fun h1 h2 => h1 (HNE.out h2))
        -- CASES
        by_cases p0 : f.path = g.path
        · have r0 : ((bts f.path).toList == (bts g.path).toList) = true := by rw [bts_eq, decide_eq_true p0]
          have s0 : ((bts f.path).toList != (bts g.path).toList) = false := by rw [bne, r0]; rfl
          have P0 := Lib.hid p0
          clear p0
          by_cases p1 : f.kind = g.kind
          · have r1 : (f.kind == g.kind) = true := by rw [int_eq, decide_eq_true p1]
            have s1 : (f.kind != g.kind) = false := by rw [bne, r1]; rfl
            have P1 := Lib.hid p1
            clear p1
            by_cases p2 : f.mode = g.mode
            · have r2 : (f.mode == g.mode) = true := by rw [int_eq, decide_eq_true p2]
              have s2 : (f.mode != g.mode) = false := by rw [bne, r2]; rfl
              have P2 := Lib.hid p2
              clear p2
              by_cases p3 : f.time = g.time
              · have r3 : (f.time == g.time) = true := by rw [int_eq, decide_eq_true p3]
                have s3 : (f.time != g.time) = false := by rw [bne, r3]; rfl
                have P3 := Lib.hid p3
                clear p3
                by_cases p4 : f.to = g.to
                · have r4 : ((bts f.to).toList == (bts g.to).toList) = true := by rw [bts_eq, decide_eq_true p4]
                  have s4 : ((bts f.to).toList != (bts g.to).toList) = false := by rw [bne, r4]; rfl
                  have P4 := Lib.hid p4
                  clear p4
                  by_cases p5 : f.data = g.data
                  · have r5 : ((bts f.data).toList == (bts g.data).toList) = true := by rw [bts_eq, decide_eq_true p5]
                    have s5 : ((bts f.data).toList != (bts g.data).toList) = false := by rw [bne, r5]; rfl
                    have P5 := Lib.hid p5
                    clear p5
                    have HE := Lib.hid (show l.take (k + 1) = m.take (k + 1) by rw [HN.out.1, HN.out.2, HT.out, Fl.ext' P0.out P1.out P2.out P3.out P4.out P5.out])
                    go_wp2_with (first
                      | (refine wpList_strW rfl _ rfl f.data (HD1.out.grown0 (grown_alloc (grown_alloc (grown_refl _ _) _) _)) ?_)
                      | (refine wpList_strW rfl _ rfl g.data (HD2.out.grown0 (grown_alloc (grown_refl _ _) _)) ?_))
                    go_roundw
                    case rel => exact ⟨k + 1, by go_num, h, HE.out, grown_alloc (grown_alloc HG.out _) _⟩
                    case measure =>
                      simp [intOf]
                      omega
                  · have r5 : ((bts f.data).toList == (bts g.data).toList) = false := by rw [bts_eq, decide_eq_false p5]
                    have s5 : ((bts f.data).toList != (bts g.data).toList) = true := by rw [bne, r5]; rfl
                    have HE := Lib.hid (HX.out (fun e => p5 (by rw [e])))
                    clear p5
                    go_wp2_with (first
                      | (refine wpList_strW rfl _ rfl f.data (HD1.out.grown0 (grown_alloc (grown_alloc (grown_refl _ _) _) _)) ?_)
                      | (refine wpList_strW rfl _ rfl g.data (HD2.out.grown0 (grown_alloc (grown_refl _ _) _)) ?_))
                    go_ret
                    exact ⟨false, rfl, by simp [HE.out], grown_alloc (grown_alloc HG.out _) _⟩
                · have r4 : ((bts f.to).toList == (bts g.to).toList) = false := by rw [bts_eq, decide_eq_false p4]
                  have s4 : ((bts f.to).toList != (bts g.to).toList) = true := by rw [bne, r4]; rfl
                  have HE := Lib.hid (HX.out (fun e => p4 (by rw [e])))
                  clear p4
                  go_wp2
                  go_ret
                  exact ⟨false, rfl, by simp [HE.out], grown_alloc (grown_alloc HG.out _) _⟩
              · have r3 : (f.time == g.time) = false := by rw [int_eq, decide_eq_false p3]
                have s3 : (f.time != g.time) = true := by rw [bne, r3]; rfl
                have HE := Lib.hid (HX.out (fun e => p3 (by rw [e])))
                clear p3
                go_wp2
                go_ret
                exact ⟨false, rfl, by simp [HE.out], grown_alloc (grown_alloc HG.out _) _⟩
            · have r2 : (f.mode == g.mode) = false := by rw [int_eq, decide_eq_false p2]
              have s2 : (f.mode != g.mode) = true := by rw [bne, r2]; rfl
              have HE := Lib.hid (HX.out (fun e => p2 (by rw [e])))
              clear p2
              go_wp2
              go_ret
              exact ⟨false, rfl, by simp [HE.out], grown_alloc (grown_alloc HG.out _) _⟩
          · have r1 : (f.kind == g.kind) = false := by rw [int_eq, decide_eq_false p1]
            have s1 : (f.kind != g.kind) = true := by rw [bne, r1]; rfl
            have HE := Lib.hid (HX.out (fun e => p1 (by rw [e])))
            clear p1
            go_wp2
            go_ret
            exact ⟨false, rfl, by simp [HE.out], grown_alloc (grown_alloc HG.out _) _⟩
        · have r0 : ((bts f.path).toList == (bts g.path).toList) = false := by rw [bts_eq, decide_eq_false p0]
          have s0 : ((bts f.path).toList != (bts g.path).toList) = true := by rw [bne, r0]; rfl
          have HE := Lib.hid (HX.out (fun e => p0 (by rw [e])))
          clear p0
          go_wp2
          go_ret
          exact ⟨false, rfl, by simp [HE.out], grown_alloc (grown_alloc HG.out _) _⟩
        -- END CASES
      · have d0 : decide ((k : Int) < (l.length : Int)) = false := decide_eq_false (by omega)
        have HE := Lib.hid (show l = m by
          have := HT.out
          rwa [List.take_of_length_le (by omega), List.take_of_length_le (by have := HLM.out; omega)] at this)
        go_wp2
        go_ret
        exact ⟨true, rfl, by simp [HE.out], HG.out⟩
  · have e1 : ((l.length : Int) == (m.length : Int)) = false := beq_eq_false_iff_ne.2 (by omega)
    have e2 : ((l.length : Int) != (m.length : Int)) = true := by rw [bne, e1]; rfl
    have HE := Lib.hid (show ¬ l = m from fun h => hlm (by rw [h]))
    go_wp2
    go_ret
    exact ⟨false, rfl, by simp [HE.out], grown_refl _ _⟩
end Go.Proofs.YtiakkfcjdmecdaaDoor
