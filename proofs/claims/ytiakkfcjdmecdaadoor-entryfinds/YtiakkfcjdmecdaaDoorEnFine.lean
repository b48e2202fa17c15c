/-
  The document's Fine and Total (portmanteauref13) over this program.
-/
import Derived.Test.YtiakkfcjdmecdaaDoorEnWhy
namespace Go.Proofs.YtiakkfcjdmecdaaDoor
set_option maxRecDepth 1000000
open Go.RowKit

/-- Entries with which nothing is amiss. -/
structure Good (l : List En) : Prop where
  right : ∀ e ∈ l, rightB e.path = true
  asc : ascTo l l.length = true
  few : l.length ≤ 1024
  size : ∀ e ∈ l, 0 ≤ e.size ∧ e.size ≤ 1048576
  ok : ∀ e ∈ l, okE e = true
  sum : sizesE l ≤ 4194304
theorem okE_size {e : En} (h : okE e = true) : 0 ≤ e.size := by
  unfold okE at h
  simp only [Bool.and_eq_true, Bool.not_eq_true', Bool.or_eq_false_iff, decide_eq_false_iff_not] at h
  omega
theorem sumE_sizes (l : List En) (h : ∀ e ∈ l, 0 ≤ e.size) : sumE l = sizesE l := by
  induction l with
  | nil => rfl
  | cons e l ih =>
    have h1 := h e (by simp)
    rw [sumE, sizesE, ih (fun e he => h e (by simp [he]))]
    omega
theorem why_zero {l : List En} (h : whyE l = 0) : Good l := by
  unfold whyE at h
  by_cases h1 : l.all (fun e => rightB e.path) = false
  · rw [if_pos h1] at h; cases h
  · rw [if_neg h1] at h
    by_cases h2 : ascTo l l.length = false
    · rw [if_pos h2] at h; cases h
    · rw [if_neg h2] at h
      by_cases h3 : 1024 < l.length
      · rw [if_pos h3] at h; cases h
      · rw [if_neg h3] at h
        by_cases h4 : l.all (fun e => decide (e.size ≤ 1048576)) = false
        · rw [if_pos h4] at h; cases h
        · rw [if_neg h4] at h
          by_cases h5 : 4194304 < sumE l
          · rw [if_pos h5] at h; cases h
          · rw [if_neg h5] at h
            by_cases h6 : l.all okE = false
            · rw [if_pos h6] at h; cases h
            · rw [Bool.not_eq_false, List.all_eq_true] at h1 h4 h6
              rw [Bool.not_eq_false] at h2
              have h7 : ∀ e ∈ l, 0 ≤ e.size := fun e he => okE_size (h6 e he)
              exact ⟨h1, h2, by omega, fun e he => ⟨h7 e he, by simpa using h4 e he⟩, h6, by rw [← sumE_sizes l h7]; omega⟩
theorem sizes_bound (l : List En) (h : ∀ e ∈ l, 0 ≤ e.size ∧ e.size ≤ 1048576) (k : Nat) : 0 ≤ sizesE (l.take k) ∧ sizesE (l.take k) ≤ 1048576 * (k : Int) := by
  induction l generalizing k with
  | nil => simp [sizesE]; omega
  | cons e l ih =>
    cases k with
    | zero => simp [sizesE]
    | succ k =>
      have h1 := h e (by simp)
      have h2 := ih (fun e he => h e (by simp [he])) k
      rw [List.take_succ_cons, sizesE]
      omega
theorem atE {l : List En} {p : En → Prop} (h : ∀ e ∈ l, p e) {k : Nat} (hk : k < l.length) : p (l.getD k default) := h _ (by simp [List.getElem?_eq_getElem hk])
theorem whyE_range (l : List En) : 0 ≤ whyE l ∧ whyE l ≤ 10 := by
  unfold whyE
  repeat' split
  all_goals omega

set_option maxHeartbeats 8000000 in
theorem refFine_any (A : Option Addr) (n c m : Nat) (l : List En) (w : World) (hr : RdE w (.slice A n c) l) (hm : Lens l m) (hmb : m < 1000000) (hnb : n ≤ 1000000) :
    Calls Tryd.prog 24 #[.slice A n c] w (Val (.bool (fineE l)) w) := by
  have HW := Lib.hid (refWhy_any A n c m l w hr hm hmb hnb)
  have hln := hr.len.1
  subst hln
  have HR := Lib.hid hr
  have HF := Lib.hid (show fineE l = (whyE l == 0 && begsTo l l.length) from rfl)
  have HG := Lib.hid (why_zero (l := l))
  clear hr hm
  go_enter Tryd.func24, Tryd.ntmps24
  go_wp2_with fail
  refine HW.out.mono ?_
  rintro e w1 ⟨rfl, hg⟩
  have HR1 := Lib.hid (HR.out.grown0 hg)
  have G1 := Lib.hid hg
  clear hg HR HW
  generalize whyE l = z at *
  by_cases hz : z = 0
  · have e1 : (z == 0) = true := beq_iff_eq.2 hz
    have e2 : (z != 0) = false := by rw [bne, e1]; rfl
    have GD := HG.out hz
    have hsz := GD.size
    have hfew := GD.few
    have HF2 := Lib.hid (show fineE l = begsTo l l.length by rw [HF.out, e1]; rfl)
    clear GD HG HF hz
    go_wp2
    go_loopw [3, 4] (fun s i W => ∃ k : Nat, i = .int .i64 k ∧ k ≤ l.length ∧ s = .int .i64 (sizesE (l.take k)) ∧ begsTo l k = true ∧ W = w1) (fun _ i _ => l.length - (intOf i).toNat)
    case atStart => exact ⟨0, rfl, Nat.zero_le _, rfl, rfl, rfl⟩
    case round =>
      obtain ⟨k, rfl, hk, rfl, hb, rfl⟩ := hrel
      have HB := Lib.hid hb
      have hsb := sizes_bound l hsz k
      clear hb
      by_cases h : k < l.length
      · have d0 : decide ((k : Int) < (l.length : Int)) = true := by simp; omega
        obtain ⟨ad, rfl, _, _, _, _, _, c5, c6⟩ := HR1.out.step h
        have HN := Lib.hid (begsTo_next l k)
        have HO := Lib.hid (begs_not l k h)
        have HSN := Lib.hid (sizesE_next l k h)
        have hse := atE hsz h
        generalize l.getD k default = e at *
        generalize sizesE (l.take k) = s at *
        by_cases hq : e.beg = s
        · have q1 : (e.beg == s) = true := beq_iff_eq.2 hq
          have q2 : (e.beg != s) = false := by rw [bne, q1]; rfl
          have HQ := Lib.hid (show begsTo l (k + 1) = true by rw [HN.out, HB.out, q1]; rfl)
          have hw64 : wrap64 (s + e.size) = s + e.size := by unfold wrap64; omega
          clear hq
          go_wp2
          go_roundw
          case rel => exact ⟨k + 1, by go_num, h, by rw [HSN.out], HQ.out, trivial⟩
          case measure =>
            simp [intOf]
            omega
        · have q1 : (e.beg == s) = false := beq_eq_false_iff_ne.2 hq
          have q2 : (e.beg != s) = true := by rw [bne, q1]; rfl
          have HE := Lib.hid (show fineE l = false by rw [HF2.out]; exact HO.out q1)
          clear hq
          go_wp2
          go_ret
          exact ⟨by rw [HE.out]; rfl, G1.out⟩
      · have d0 : decide ((k : Int) < (l.length : Int)) = false := decide_eq_false (by omega)
        have HE := Lib.hid (show fineE l = true by rw [HF2.out, show l.length = k by omega]; exact HB.out)
        go_wp2
        go_ret
        exact ⟨by rw [HE.out]; rfl, G1.out⟩
  · have e1 : (z == 0) = false := beq_eq_false_iff_ne.2 hz
    have e2 : (z != 0) = true := by rw [bne, e1]; rfl
    have HE := Lib.hid (show fineE l = false by rw [HF.out, e1]; rfl)
    clear hz HF
    go_wp2
    go_ret
    exact ⟨by rw [HE.out]; rfl, G1.out⟩

theorem fine_good {l : List En} (h : fineE l = true) : Good l ∧ begsTo l l.length = true := by
  rw [fineE, Bool.and_eq_true, beq_iff_eq] at h
  exact ⟨why_zero h.1, h.2⟩
set_option maxHeartbeats 8000000 in
theorem refTotal_any (A : Option Addr) (n c m : Nat) (l : List En) (w : World) (hr : RdE w (.slice A n c) l) (hm : Lens l m) (hmb : m < 1000000) (hnb : n ≤ 1000000) :
    Calls Tryd.prog 26 #[.slice A n c] w (Val (.int .i64 (totalE l)) w) := by
  have HFN := Lib.hid (fun w' (h : RdE w' (.slice A n c) l) => refFine_any A n c m l w' h hm hmb hnb)
  have hln := hr.len.1
  subst hln
  have HR := Lib.hid hr
  have HT := Lib.hid (show totalE l = if fineE l then sizesE l else 0 from rfl)
  have HG := Lib.hid (fine_good (l := l))
  clear hr hm
  go_enter Tryd.func26, Tryd.ntmps26
  go_wp2
  cases hf : fineE l
  · have HE := Lib.hid (show totalE l = 0 by rw [HT.out, hf]; rfl)
    go_loopw [3, 4] (fun s i W => i = .int .i64 0 ∧ s = .int .i64 0 ∧ w.grownBy W none) (fun _ _ _ => 0)
    case atStart => exact ⟨rfl, rfl, grown_refl _ _⟩
    case round =>
      obtain ⟨rfl, rfl, hg⟩ := hrel
      have G0 := Lib.hid hg
      have HR0 := Lib.hid (HR.out.grown0 hg)
      clear hg
      by_cases h : 0 < l.length
      · have d0 : decide ((0 : Int) < (l.length : Int)) = true := by simp; omega
        go_wp2_with fail
        refine (HFN.out _ HR0.out).mono ?_
        rintro e w1 ⟨rfl, hg⟩
        have G1 := Lib.hid (World.grownBy.trans G0.out hg)
        clear hg
        rw [hf]
        go_wp2
        go_ret
        exact ⟨by rw [HE.out]; rfl, G1.out⟩
      · have d0 : decide ((0 : Int) < (l.length : Int)) = false := decide_eq_false (by omega)
        go_wp2
        go_ret
        exact ⟨by rw [HE.out]; rfl, G0.out⟩
  · have GD := (HG.out hf).1
    have hsz := GD.size
    have hfew := GD.few
    have HE := Lib.hid (show totalE l = sizesE l by rw [HT.out, hf]; rfl)
    clear GD HG HT
    go_loopw [3, 4] (fun s i W => ∃ k : Nat, i = .int .i64 k ∧ k ≤ l.length ∧ s = .int .i64 (sizesE (l.take k)) ∧ w.grownBy W none) (fun _ i _ => l.length - (intOf i).toNat)
    case atStart => exact ⟨0, rfl, Nat.zero_le _, rfl, grown_refl _ _⟩
    case round =>
      obtain ⟨k, rfl, hk, rfl, hg⟩ := hrel
      have G0 := Lib.hid hg
      have HR0 := Lib.hid (HR.out.grown0 hg)
      have hsb := sizes_bound l hsz k
      clear hg
      by_cases h : k < l.length
      · have d0 : decide ((k : Int) < (l.length : Int)) = true := by simp; omega
        go_wp2_with fail
        refine (HFN.out _ HR0.out).mono ?_
        rintro e w1 ⟨rfl, hg⟩
        have G1 := Lib.hid (World.grownBy.trans G0.out hg)
        obtain ⟨ad, rfl, _, _, _, _, _, _, c6⟩ := (HR0.out.grown0 hg).step h
        clear hg
        rw [hf]
        have HSN := Lib.hid (sizesE_next l k h)
        have hse := atE hsz h
        generalize l.getD k default = e at *
        generalize sizesE (l.take k) = s at *
        have hw64 : wrap64 (s + e.size) = s + e.size := by unfold wrap64; omega
        go_wp2
        go_roundw
        case rel => exact ⟨k + 1, by go_num, h, by rw [HSN.out], G1.out⟩
        case measure =>
          simp [intOf]
          omega
      · have d0 : decide ((k : Int) < (l.length : Int)) = false := decide_eq_false (by omega)
        have hsl : sizesE (l.take k) = sizesE l := by rw [List.take_of_length_le (by omega)]
        rw [hsl]
        generalize sizesE l = s at *
        go_wp2
        go_ret
        exact ⟨by rw [HE.out]; rfl, G0.out⟩
end Go.Proofs.YtiakkfcjdmecdaaDoor
