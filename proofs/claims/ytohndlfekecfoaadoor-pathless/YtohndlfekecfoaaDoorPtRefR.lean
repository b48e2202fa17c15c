/-
  The document's part and Right over this program.
-/
import Derived.Test.YtohndlfekecfoaaDoorPtRefS
namespace Go.Proofs.YtohndlfekecfoaaDoor
set_option maxRecDepth 1000000
open Go.RowKit

theorem okC_tests (c : UInt8) : okC c = !(decide ((c.toNat : Int) < 33) || decide (126 < (c.toNat : Int)) || ((c.toNat : Int) == 92)) := by
  rw [okC, Bool.eq_iff_iff]
  simp
  omega
set_option maxHeartbeats 4000000 in
theorem refPart_any (s : ByteArray) (w : World) (hs : s.size < 1000000000) :
    Calls Tryd.prog 23 #[.string s] w (Val (.bool (partB s.data.toList)) w) := by
  go_enter Tryd.func23, Tryd.ntmps23
  go_wp2
  go_loopw [3] (fun i w' => ∃ k : Nat, i = .int .i64 k ∧ w' = w ∧ k ≤ s.size ∧ (s.data.toList.take k).all okC = true) (fun i _ => s.size - (intOf i).toNat)
  case atStart => exact ⟨0, rfl, rfl, Nat.zero_le _, by simp⟩
  case round =>
    obtain ⟨k, rfl, rfl, hle, hall⟩ := hrel
    have HA := Lib.hid hall
    by_cases h : k < s.size
    · have hkl : k < s.data.toList.length := by rw [← size_len]; exact h
      have hb : s[k]'h = s.data.toList.getD k 0 := byte_getD s k h
      have ht := okC_tests (s.data.toList.getD k 0)
      have HN := Lib.hid (all_take _ _ _ hkl hall)
      have HR := Lib.hid (fun hk => (show Val (.bool (partB s.data.toList)) wr (.returned (.bool false)) wr from ⟨by
            have h1 := all_not s.data.toList okC k hkl hk
            simp [partB, h1], grown_refl _ _⟩))
      have d0 : decide ((k : Int) < (s.size : Int)) = true := by simp; omega
      have HK := Lib.hid h
      rw [← hb] at ht
      have HB := Lib.hid hb
      have a1 : ∀ b, decide (((s[k]'h).toNat : Int) < 33) = b → decide (((s.data[k]'h).toNat : Int) < 33) = b := fun b hb => hb
      have a2 : ∀ b, decide (126 < ((s[k]'h).toNat : Int)) = b → decide (126 < ((s.data[k]'h).toNat : Int)) = b := fun b hb => hb
      have a3 : ∀ b, (((s[k]'h).toNat : Int) == 92) = b → (((s.data[k]'h).toNat : Int) == 92) = b := fun b hb => hb
      clear hall hb hkl
      cases e1 : decide (((s[k]'h).toNat : Int) < 33)
      · cases e2 : decide (126 < ((s[k]'h).toNat : Int))
        · cases e3 : (((s[k]'h).toNat : Int) == 92)
          · have HO := Lib.hid (show okC (s.data.toList.getD k 0) = true by rw [← HB.out, ht, e1, e2, e3]; rfl)
            have f1 := a1 _ e1; have f2 := a2 _ e2; have f3 := a3 _ e3
            clear ht a1 a2 a3
            go_wp2
            go_roundw
            case rel => exact ⟨k + 1, by go_num, trivial, HK.out, by rw [HN.out]; exact HO.out⟩
            case measure =>
              have := HK.out
              simp [intOf]
              omega
          · have HO := Lib.hid (show okC (s.data.toList.getD k 0) = false by rw [← HB.out, ht, e3]; simp)
            have f1 := a1 _ e1; have f2 := a2 _ e2; have f3 := a3 _ e3
            clear ht a1 a2 a3
            go_wp2
            go_ret
            exact HR.out HO.out
        · have HO := Lib.hid (show okC (s.data.toList.getD k 0) = false by rw [← HB.out, ht, e2]; simp)
          have f1 := a1 _ e1; have f2 := a2 _ e2
          clear ht a1 a2 a3
          go_wp2
          go_ret
          exact HR.out HO.out
      · have HO := Lib.hid (show okC (s.data.toList.getD k 0) = false by rw [← HB.out, ht, e1]; simp)
        have f1 := a1 _ e1
        clear ht a1 a2 a3
        go_wp2
        go_ret
        exact HR.out HO.out
    · have d0 : decide ((k : Int) < (s.size : Int)) = false := by simp; omega
      have hall2 : s.data.toList.all okC = true := by rwa [List.take_of_length_le (by rw [← size_len]; omega)] at hall
      have hpB := partB_tests s hall2
      have hemp : s.toList.isEmpty = decide (s.size = 0) := by
        rw [Lib.toList_data, size_len]
        cases s.data.toList <;> simp
      rw [hemp] at hpB
      clear hall hall2 HA hemp
      by_cases hs0 : s.size = 0
      · have e0 : decide ((0 : Int) < (s.size : Int)) = false := decide_eq_false (by omega)
        have e0' : decide (0 < s.size) = false := decide_eq_false (by omega)
        have HB := Lib.hid (show partB s.data.toList = false by rw [hpB, hs0]; simp)
        clear hpB hs0
        go_wp2
        go_ret
        exact ⟨by rw [HB.out]; rfl, grown_refl _ _⟩
      · have e0 : decide ((0 : Int) < (s.size : Int)) = true := decide_eq_true (by omega)
        have e0' : decide (0 < s.size) = true := decide_eq_true (by omega)
        by_cases hs64 : s.size ≤ 64
        · have e1 : decide ((s.size : Int) ≤ 64) = true := by simp; omega
          cases e2 : s.toList == [46]
          · cases e3 : s.toList == [46, 46]
            · have HB := Lib.hid (show partB s.data.toList = true by rw [hpB, e2, e3]; simp [hs64, hs0])
              clear hpB hs64 hs0
              go_wp2
              go_ret
              exact ⟨by rw [HB.out]; rfl, grown_refl _ _⟩
            · have HB := Lib.hid (show partB s.data.toList = false by rw [hpB, e3]; simp)
              clear hpB hs64 hs0
              go_wp2
              go_ret
              exact ⟨by rw [HB.out]; rfl, grown_refl _ _⟩
          · have HB := Lib.hid (show partB s.data.toList = false by rw [hpB, e2]; simp)
            clear hpB hs64 hs0
            go_wp2
            go_ret
            exact ⟨by rw [HB.out]; rfl, grown_refl _ _⟩
        · have e1 : decide ((s.size : Int) ≤ 64) = false := by simp; omega
          have HB := Lib.hid (show partB s.data.toList = false by rw [hpB]; simp [hs64])
          clear hpB hs64 hs0
          go_wp2
          go_ret
          exact ⟨by rw [HB.out]; rfl, grown_refl _ _⟩

set_option maxHeartbeats 4000000 in
theorem refRight_any (s : ByteArray) (w : World) (hs : s.size < 1000000) :
    Calls Tryd.prog 12 #[.string s] w (Val (.bool (rightB s.data.toList)) w) := by
  have HSP := Lib.hid (refSplit_any s w hs)
  have HPL := Lib.hid (part_le s.data.toList)
  have HLE := Lib.hid (parts_size s)
  have HRB := Lib.hid (show rightB s.data.toList = (decide (s.size ≤ 256) && (parts s.data.toList).all partB) by rw [rightB, size_len])
  have hsl := size_len s
  go_enter Tryd.func12, Tryd.ntmps12
  go_wp2_with fail
  refine HSP.out.mono ?_
  rintro e w1 ⟨v, rfl, ho, hg⟩
  obtain ⟨g, c, rfl, _⟩ := own_form ho (List.length_pos_iff.2 (parts_ne _))
  have HR := Lib.hid (Rd.of_own ho)
  have HG := Lib.hid hg
  clear ho hg HSP
  have hpl : ∀ p ∈ parts s.data.toList, p.length < 1000000 := fun p hp => by have := HPL.out p hp; omega
  have hpl2 : (parts s.data.toList).length ≤ 1000000 := by have := HLE.out; omega
  generalize parts s.data.toList = L at *
  have HS := Lib.hid hpl
  have HSL := Lib.hid hsl
  clear hpl HPL HLE hsl
  go_wp2
  go_loopw [4] (fun i W => ∃ k : Nat, i = .int .i64 k ∧ k ≤ L.length ∧ (L.take k).all partB = true ∧ w1.grownBy W none) (fun i _ => L.length - (intOf i).toNat)
  case atStart => exact ⟨0, rfl, Nat.zero_le _, by simp, grown_refl _ _⟩
  case round =>
    obtain ⟨k, rfl, hk, hall, hg⟩ := hrel
    have HA := Lib.hid hall
    have HGR := Lib.hid hg
    clear hall hg
    by_cases h : k < L.length
    · obtain ⟨ad, u, hae, hu, hc⟩ := (HR.out.grown0 HGR.out).cellAt (k := k) h
      cases hae
      obtain ⟨_, rfl⟩ := strs_at L hu
      clear hu
      have hc2 : wr.cell? ⟨g, k, none⟩ = some (.string (bts (L.getD k []))) := by rw [← hc]; congr 1; unfold Addr.add; split <;> simp_all
      have d0 : decide ((k : Int) < (L.length : Int)) = true := by simp; omega
      have hsz : (bts (L.getD k [])).size < 1000000000 := by
        rw [bts_size]
        have := HS.out (L.getD k []) (by simp [List.getElem?_eq_getElem h])
        omega
      have HC := Lib.hid (fun w' => refPart_any (bts (L.getD k [])) w' hsz)
      have HT := Lib.hid (all_takeL L partB k h HA.out)
      have HN := Lib.hid (all_notL L partB k h)
      clear hsz hc
      generalize L.getD k [] = p at *
      go_wp2_with fail
      refine (HC.out _).mono ?_
      rintro e w2 ⟨rfl, hg1⟩
      have HG1 := Lib.hid (World.grownBy.trans HGR.out hg1)
      clear hg1
      rw [bts_data]
      cases hp : partB p
      · go_wp2
        go_ret
        exact ⟨by rw [HRB.out, HN.out hp, Bool.and_false]; rfl, World.grownBy.trans HG.out HG1.out⟩
      · go_wp2
        go_roundw
        case rel => exact ⟨k + 1, by go_num, by omega, by rw [HT.out]; exact hp, HG1.out⟩
        case measure =>
          simp [intOf]
          omega
    · have d0 : decide ((k : Int) < (L.length : Int)) = false := by simp; omega
      have HALL := Lib.hid (show L.all partB = true by have := HA.out; rwa [List.take_of_length_le (by omega)] at this)
      by_cases h256 : s.size ≤ 256
      · have d1 : decide ((s.size : Int) ≤ 256) = true := by simp; omega
        have HD := Lib.hid (decide_eq_true h256)
        clear h256
        go_wp2
        go_ret
        exact ⟨by rw [HRB.out, HALL.out, HD.out]; rfl, World.grownBy.trans HG.out HGR.out⟩
      · have d1 : decide ((s.size : Int) ≤ 256) = false := by simp; omega
        have HD := Lib.hid (decide_eq_false h256)
        clear h256
        go_wp2
        go_ret
        exact ⟨by rw [HRB.out, HALL.out, HD.out]; rfl, World.grownBy.trans HG.out HGR.out⟩
end Go.Proofs.YtohndlfekecfoaaDoor
