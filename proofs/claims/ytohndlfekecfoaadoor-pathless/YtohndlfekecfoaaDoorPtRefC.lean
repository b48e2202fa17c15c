/-
  The document's text and Compare over this program.
-/
import Derived.Test.YtohndlfekecfoaaDoorPtRefR
import Derived.Test.YtohndlfekecfoaaDoorPtCmp
import Derived.Deep.QuietTactic
namespace Go.Proofs.YtohndlfekecfoaaDoor
set_option maxRecDepth 1000000
open Go.RowKit

def Seen (v : Value) (w : World) (e : Ending) (w' : World) : Prop := e = .returned v ∧ ∃ n, w' = w.drewN n
theorem Seen.val {v : Value} {w w' : World} {e : Ending} (h : Seen v w e w') : Val v w e w' := by
  obtain ⟨he, n, hn⟩ := h
  exact ⟨he, by rw [hn]; exact grown_drewN (grown_refl _ _) n⟩
theorem cmpT_at (a b : List UInt8) (k : Nat) (ha : k < a.length) (hb : k < b.length) :
    cmpT (a.drop k) (b.drop k) = if a.getD k 0 < b.getD k 0 then -1 else if b.getD k 0 < a.getD k 0 then 1 else cmpT (a.drop (k + 1)) (b.drop (k + 1)) := by
  rw [List.drop_eq_getElem_cons ha, List.drop_eq_getElem_cons hb]
  have e1 : a.getD k 0 = a[k] := by simp [List.getElem?_eq_getElem ha]
  have e2 : b.getD k 0 = b[k] := by simp [List.getElem?_eq_getElem hb]
  rw [e1, e2]
  show (if cmpC a[k] b[k] = 0 then cmpG cmpC _ _ else cmpC a[k] b[k]) = _
  unfold cmpC
  by_cases h1 : a[k] < b[k]
  · simp [h1]
  · by_cases h2 : b[k] < a[k]
    · simp [h1, h2]
    · simp [h1, h2]; rfl
theorem cmpT_end (a b : List UInt8) (k : Nat) (h : ¬ (k < a.length ∧ k < b.length)) (ha : k ≤ a.length) (hb : k ≤ b.length) :
    cmpT (a.drop k) (b.drop k) = if a.length < b.length then -1 else if b.length < a.length then 1 else 0 := by
  by_cases h1 : k < a.length
  · have h2 : b.length ≤ k := by omega
    rw [List.drop_of_length_le h2, if_neg (by omega), if_pos (by omega), List.drop_eq_getElem_cons h1]
    rfl
  · rw [List.drop_of_length_le (by omega)]
    by_cases h2 : k < b.length
    · rw [if_pos (by omega), List.drop_eq_getElem_cons h2]
      rfl
    · rw [List.drop_of_length_le (by omega), if_neg (by omega), if_neg (by omega)]
      rfl

set_option maxHeartbeats 4000000 in
theorem refText_any (a b : ByteArray) (w : World) (_ : a.size < 1000000000) (_ : b.size < 1000000000) :
    Calls Tryd.prog 30 #[.string a, .string b] w (Seen (.int .i64 (cmpT a.data.toList b.data.toList)) w) := by
  generalize hC : cmpT a.data.toList b.data.toList = C at *
  go_enter Tryd.func30, Tryd.ntmps30
  go_wp2
  go_loopw [5] (fun i w' => ∃ k m : Nat, i = .int .i64 k ∧ w' = w.drewN m ∧ k ≤ a.size ∧ k ≤ b.size ∧ cmpT (a.data.toList.drop k) (b.data.toList.drop k) = C) (fun i _ => a.size - (intOf i).toNat)
  case atStart => exact ⟨0, 0, rfl, rfl, Nat.zero_le _, Nat.zero_le _, hC⟩
  case round =>
    clear hC
    obtain ⟨k, m, rfl, hw, hka, hkb, hc⟩ := hrel
    have HW := Lib.hid hw
    have HC := Lib.hid hc
    clear hw hc
    have la := size_len a
    have lb := size_len b
    by_cases h1 : k < a.size
    · have d0 : decide ((k : Int) < (a.size : Int)) = true := by simp; omega
      by_cases h2 : k < b.size
      · have d1 : decide ((k : Int) < (b.size : Int)) = true := by simp; omega
        have hx : a[k]'h1 = a.data.toList.getD k 0 := byte_getD a k h1
        have hy : b[k]'h2 = b.data.toList.getD k 0 := byte_getD b k h2
        have hst := cmpT_at a.data.toList b.data.toList k (by omega) (by omega)
        rw [HC.out, ← hx, ← hy] at hst
        simp only [UInt8.lt_iff_toNat_lt] at hst
        have HST := Lib.hid hst
        have HB := Lib.hid (And.intro h1 h2)
        clear hx hy hst la lb
        by_cases c1 : (a[k]'h1).toNat < (b[k]'h2).toNat
        · have e1 : decide (((a[k]'h1).toNat : Int) < ((b[k]'h2).toNat : Int)) = true := decide_eq_true (by omega)
          have f1 : decide (((a.data[k]'h1).toNat : Int) < ((b.data[k]'h2).toNat : Int)) = true := e1
          have f2 : decide ((a.data[k]'h1).toNat < (b.data[k]'h2).toNat) = true := decide_eq_true c1
          have g1 : decide ((a[k]'h1).toNat < (b[k]'h2).toNat) = true := decide_eq_true c1
          have HE := Lib.hid (show C = -1 by have := HST.out; rwa [if_pos c1] at this)
          clear c1
          go_wp2
          go_quiet (fail)
          go_wp2
          go_ret
          exact ⟨by rw [HE.out]; rfl, _, by rw [HW.out]; exact World.drewN_drewN _ _ _⟩
        · have e1 : decide (((a[k]'h1).toNat : Int) < ((b[k]'h2).toNat : Int)) = false := decide_eq_false (by omega)
          have f1 : decide (((a.data[k]'h1).toNat : Int) < ((b.data[k]'h2).toNat : Int)) = false := e1
          have f2 : decide ((a.data[k]'h1).toNat < (b.data[k]'h2).toNat) = false := decide_eq_false c1
          have g1 : decide ((a[k]'h1).toNat < (b[k]'h2).toNat) = false := decide_eq_false c1
          by_cases c2 : (b[k]'h2).toNat < (a[k]'h1).toNat
          · have e3 : decide (((b[k]'h2).toNat : Int) < ((a[k]'h1).toNat : Int)) = true := decide_eq_true (by omega)
            have f3 : decide (((b.data[k]'h2).toNat : Int) < ((a.data[k]'h1).toNat : Int)) = true := e3
            have f4 : decide ((b.data[k]'h2).toNat < (a.data[k]'h1).toNat) = true := decide_eq_true c2
            have g2 : decide ((b[k]'h2).toNat < (a[k]'h1).toNat) = true := decide_eq_true c2
            have HE := Lib.hid (show C = 1 by have := HST.out; rwa [if_neg c1, if_pos c2] at this)
            clear c1 c2
            go_wp2
            go_quiet (fail)
            go_wp2
            go_quiet (fail)
            go_wp2
            go_ret
            exact ⟨by rw [HE.out]; rfl, _, by rw [HW.out, World.drewN_drewN]; exact World.drewN_drewN _ _ _⟩
          · have e3 : decide (((b[k]'h2).toNat : Int) < ((a[k]'h1).toNat : Int)) = false := decide_eq_false (by omega)
            have f3 : decide (((b.data[k]'h2).toNat : Int) < ((a.data[k]'h1).toNat : Int)) = false := e3
            have f4 : decide ((b.data[k]'h2).toNat < (a.data[k]'h1).toNat) = false := decide_eq_false c2
            have g2 : decide ((b[k]'h2).toNat < (a[k]'h1).toNat) = false := decide_eq_false c2
            have HE := Lib.hid (show cmpT (a.data.toList.drop (k + 1)) (b.data.toList.drop (k + 1)) = C by have := HST.out; rw [if_neg c1, if_neg c2] at this; exact this.symm)
            clear c1 c2
            go_wp2
            go_quiet (fail)
            go_wp2
            go_quiet (fail)
            go_wp2
            go_roundw
            case rel => exact ⟨k + 1, _, by go_num, by rw [HW.out, World.drewN_drewN], HB.out.1, HB.out.2, HE.out⟩
            case measure =>
              have := HB.out
              simp [intOf]
              omega
      · have d1 : decide ((k : Int) < (b.size : Int)) = false := by simp; omega
        have hE := cmpT_end a.data.toList b.data.toList k (by omega) (by omega) (by omega)
        rw [HC.out, if_neg (by omega), if_pos (by omega)] at hE
        have e1 : decide ((a.size : Int) < (b.size : Int)) = false := decide_eq_false (by omega)
        have e2 : decide ((b.size : Int) < (a.size : Int)) = true := decide_eq_true (by omega)
        have f1 : decide (a.size < b.size) = false := decide_eq_false (by omega)
        have f2 : decide (b.size < a.size) = true := decide_eq_true (by omega)
        have HE := Lib.hid hE
        clear hE la lb hka hkb
        go_wp2
        go_ret
        exact ⟨by rw [HE.out]; rfl, _, HW.out⟩
    · have d0 : decide ((k : Int) < (a.size : Int)) = false := by simp; omega
      have hE := cmpT_end a.data.toList b.data.toList k (by omega) (by omega) (by omega)
      rw [HC.out] at hE
      by_cases h2 : a.size < b.size
      · rw [if_pos (by omega)] at hE
        have e1 : decide ((a.size : Int) < (b.size : Int)) = true := decide_eq_true (by omega)
        have f1 : decide (a.size < b.size) = true := decide_eq_true (by omega)
        have HE := Lib.hid hE
        clear hE la lb hka hkb
        go_wp2
        go_ret
        exact ⟨by rw [HE.out]; rfl, _, HW.out⟩
      · rw [if_neg (by omega), if_neg (by omega)] at hE
        have e1 : decide ((a.size : Int) < (b.size : Int)) = false := decide_eq_false (by omega)
        have e2 : decide ((b.size : Int) < (a.size : Int)) = false := decide_eq_false (by omega)
        have f1 : decide (a.size < b.size) = false := decide_eq_false (by omega)
        have f2 : decide (b.size < a.size) = false := decide_eq_false (by omega)
        have HE := Lib.hid hE
        clear hE la lb hka hkb
        go_wp2
        go_ret
        exact ⟨by rw [HE.out]; rfl, _, HW.out⟩

theorem cmpL_at (a b : List (List UInt8)) (k : Nat) (ha : k < a.length) (hb : k < b.length) :
    cmpL (a.drop k) (b.drop k) = if cmpT (a.getD k []) (b.getD k []) = 0 then cmpL (a.drop (k + 1)) (b.drop (k + 1)) else cmpT (a.getD k []) (b.getD k []) := by
  rw [List.drop_eq_getElem_cons ha, List.drop_eq_getElem_cons hb]
  have e1 : a.getD k [] = a[k] := by simp [List.getElem?_eq_getElem ha]
  have e2 : b.getD k [] = b[k] := by simp [List.getElem?_eq_getElem hb]
  rw [e1, e2]
  rfl
theorem cmpL_end (a b : List (List UInt8)) (k : Nat) (h : ¬ (k < a.length ∧ k < b.length)) (ha : k ≤ a.length) (hb : k ≤ b.length) :
    cmpL (a.drop k) (b.drop k) = if a.length < b.length then -1 else if b.length < a.length then 1 else 0 := by
  by_cases h1 : k < a.length
  · have h2 : b.length ≤ k := by omega
    rw [List.drop_of_length_le h2, if_neg (by omega), if_pos (by omega), List.drop_eq_getElem_cons h1]
    rfl
  · rw [List.drop_of_length_le (by omega)]
    by_cases h2 : k < b.length
    · rw [if_pos (by omega), List.drop_eq_getElem_cons h2]
      rfl
    · rw [List.drop_of_length_le (by omega), if_neg (by omega), if_neg (by omega)]
      rfl
theorem row_cell {w : World} {g n c k : Nat} {L : List (List UInt8)} (h : Rd w (.slice (some ⟨g, 0, none⟩) n c) (strsV L)) (hk : k < L.length) : w.cell? ⟨g, k, none⟩ = some (.string (bts (L.getD k []))) := by
  obtain ⟨ad, hae, hcs⟩ := h.cells (by intro e; have := congrArg List.length e; rw [strsV_len, List.length_nil] at this; omega)
  cases hae
  rw [← hcs k _ (strsV_at L k hk)]
  congr 1; unfold Addr.add; split <;> simp_all

set_option maxHeartbeats 4000000 in
theorem refCompare_any (a b : ByteArray) (w : World) (ha : a.size < 1000000) (hb : b.size < 1000000) :
    Calls Tryd.prog 18 #[.string a, .string b] w (Val (.int .i64 (cmpP a.data.toList b.data.toList)) w) := by
  have HA := Lib.hid (refSplit_any a w ha)
  have HB := Lib.hid (fun w' => refSplit_any b w' hb)
  have hcp : cmpP a.data.toList b.data.toList = cmpL (parts a.data.toList) (parts b.data.toList) := rfl
  have pa : ∀ k, (bts ((parts a.data.toList).getD k [])).size < 1000000000 := by
    intro k
    rw [bts_size]
    by_cases hk : k < (parts a.data.toList).length
    · have := part_le a.data.toList ((parts a.data.toList).getD k []) (by simp [List.getElem?_eq_getElem hk])
      rw [← size_len] at this; omega
    · rw [List.getD_eq_getElem?_getD, List.getElem?_eq_none (by omega)]; simp
  have pb : ∀ k, (bts ((parts b.data.toList).getD k [])).size < 1000000000 := by
    intro k
    rw [bts_size]
    by_cases hk : k < (parts b.data.toList).length
    · have := part_le b.data.toList ((parts b.data.toList).getD k []) (by simp [List.getElem?_eq_getElem hk])
      rw [← size_len] at this; omega
    · rw [List.getD_eq_getElem?_getD, List.getElem?_eq_none (by omega)]; simp
  have na := parts_size a
  have nb := parts_size b
  have nea := parts_ne a.data.toList
  have neb := parts_ne b.data.toList
  rw [hcp]
  clear hcp
  generalize parts a.data.toList = X at *
  generalize parts b.data.toList = Y at *
  have PA := Lib.hid pa
  have PB := Lib.hid pb
  have hx : X.length < 10000000 := by omega
  have hy : Y.length < 10000000 := by omega
  clear pa pb na nb
  generalize hC : cmpL X Y = C at *
  go_enter Tryd.func18, Tryd.ntmps18
  go_wp2_with fail
  refine HA.out.mono ?_
  rintro e w1 ⟨v1, rfl, ho1, hg1⟩
  obtain ⟨g1, c1, rfl, _⟩ := own_form ho1 (List.length_pos_iff.2 nea)
  have HR1 := Lib.hid (Rd.of_own ho1)
  have HG1 := Lib.hid hg1
  clear ho1 hg1 HA nea
  go_wp2_with fail
  refine (HB.out _).mono ?_
  rintro e w2 ⟨v2, rfl, ho2, hg2⟩
  obtain ⟨g2, c2, rfl, _⟩ := own_form ho2 (List.length_pos_iff.2 neb)
  have HR2 := Lib.hid (Rd.of_own ho2)
  have HR1' := Lib.hid (HR1.out.grown0 hg2)
  have HG2 := Lib.hid (World.grownBy.trans HG1.out hg2)
  clear ho2 hg2 HB neb HR1 HG1
  go_wp2
  go_loopw [7] (fun i W => ∃ k : Nat, i = .int .i64 k ∧ k ≤ X.length ∧ k ≤ Y.length ∧ cmpL (X.drop k) (Y.drop k) = C ∧ w2.grownBy W none) (fun i _ => X.length - (intOf i).toNat)
  case atStart => exact ⟨0, rfl, Nat.zero_le _, Nat.zero_le _, hC, grown_refl _ _⟩
  case round =>
    clear hC
    obtain ⟨k, rfl, hka, hkb, hc, hg⟩ := hrel
    have HC := Lib.hid hc
    have HG := Lib.hid hg
    have HGA := Lib.hid (World.grownBy.trans HG2.out hg)
    clear hc hg
    by_cases h1 : k < X.length
    · have d0 : decide ((k : Int) < (X.length : Int)) = true := by simp; omega
      by_cases h2 : k < Y.length
      · have d1 : decide ((k : Int) < (Y.length : Int)) = true := by simp; omega
        have x1 := row_cell (HR1'.out.grown0 HG.out) h1
        have x2 := row_cell (HR2.out.grown0 HG.out) h2
        have HT := Lib.hid (fun n => refText_any (bts (X.getD k [])) (bts (Y.getD k [])) (wr.drewN n) (PA.out k) (PB.out k))
        have HST := Lib.hid (cmpL_at X Y k h1 h2)
        have HK := Lib.hid (And.intro h1 h2)
        clear hka hkb
        generalize X.getD k [] = p at *
        generalize Y.getD k [] = q at *
        go_wp2
        go_quiet ((go_at_call 30; exact Calls.quiet_of (HT.out _)))
        rw [bts_data, bts_data]
        generalize cmpT p q = z at *
        by_cases hz : z = 0
        · have e1 : (z == 0) = true := by rw [hz]; rfl
          have e2 : (z != 0) = false := by rw [hz]; rfl
          have HZ := Lib.hid (show cmpL (X.drop (k + 1)) (Y.drop (k + 1)) = C by have := HST.out; rw [if_pos hz, HC.out] at this; exact this.symm)
          clear hz
          go_wp2
          go_roundw
          case rel => exact ⟨k + 1, by go_num, HK.out.1, HK.out.2, HZ.out, grown_drewN HG.out _⟩
          case measure =>
            have := HK.out
            simp [intOf]
            omega
        · have e1 : (z == 0) = false := beq_eq_false_iff_ne.2 hz
          have e2 : (z != 0) = true := by simp [hz]
          have HZ := Lib.hid (show C = z by have := HST.out; rw [if_neg hz, HC.out] at this; exact this)
          clear hz
          go_wp2
          go_ret
          exact ⟨by rw [HZ.out]; rfl, grown_drewN HGA.out _⟩
      · have d1 : decide ((k : Int) < (Y.length : Int)) = false := by simp; omega
        have hE := cmpL_end X Y k (by omega) hka hkb
        rw [HC.out, if_neg (by omega), if_pos (by omega)] at hE
        have e1 : decide ((X.length : Int) < (Y.length : Int)) = false := decide_eq_false (by omega)
        have e2 : decide ((Y.length : Int) < (X.length : Int)) = true := decide_eq_true (by omega)
        have f1 : decide (X.length < Y.length) = false := decide_eq_false (by omega)
        have f2 : decide (Y.length < X.length) = true := decide_eq_true (by omega)
        have HE := Lib.hid hE
        clear hE hka hkb
        go_wp2
        go_ret
        exact ⟨by rw [HE.out]; rfl, HGA.out⟩
    · have d0 : decide ((k : Int) < (X.length : Int)) = false := by simp; omega
      have hE := cmpL_end X Y k (by omega) hka hkb
      rw [HC.out] at hE
      by_cases h2 : X.length < Y.length
      · rw [if_pos (by omega)] at hE
        have e1 : decide ((X.length : Int) < (Y.length : Int)) = true := decide_eq_true (by omega)
        have f1 : decide (X.length < Y.length) = true := decide_eq_true (by omega)
        have HE := Lib.hid hE
        clear hE hka hkb
        go_wp2
        go_ret
        exact ⟨by rw [HE.out]; rfl, HGA.out⟩
      · rw [if_neg (by omega), if_neg (by omega)] at hE
        have e1 : decide ((X.length : Int) < (Y.length : Int)) = false := decide_eq_false (by omega)
        have e2 : decide ((Y.length : Int) < (X.length : Int)) = false := decide_eq_false (by omega)
        have f1 : decide (X.length < Y.length) = false := decide_eq_false (by omega)
        have f2 : decide (Y.length < X.length) = false := decide_eq_false (by omega)
        have HE := Lib.hid hE
        clear hE hka hkb
        go_wp2
        go_ret
        exact ⟨by rw [HE.out]; rfl, HGA.out⟩
end Go.Proofs.YtohndlfekecfoaaDoor
