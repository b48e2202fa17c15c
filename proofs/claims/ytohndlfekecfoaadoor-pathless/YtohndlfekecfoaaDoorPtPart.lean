/-
  path.rightPart over this program: may a text be a part?
-/
import Derived.Test.YtohndlfekecfoaaDoorPtLib
import Derived.Laws.RangeAny
import Derived.LoopTactic
import Derived.Below
namespace Go.Proofs.YtohndlfekecfoaaDoor
set_option maxRecDepth 1000000
open Go.RowKit

theorem all_take (l : List UInt8) (f : UInt8 → Bool) (k : Nat) (h : k < l.length) (ha : (l.take k).all f = true) : (l.take (k + 1)).all f = f (l.getD k 0) := by
  rw [List.take_add_one, List.getElem?_eq_getElem h, List.all_append, ha]
  simp [List.getElem?_eq_getElem h]
theorem all_not (l : List UInt8) (f : UInt8 → Bool) (k : Nat) (h : k < l.length) (ha : f (l.getD k 0) = false) : l.all f = false := by
  rw [List.all_eq_false]
  exact ⟨l.getD k 0, by simp [List.getElem?_eq_getElem h], by rw [ha]; decide⟩
theorem byte_getD (s : ByteArray) (k : Nat) (h : k < s.size) : s[k] = s.data.toList.getD k 0 := by
  have : k < s.data.toList.length := by rw [← size_len]; exact h
  simp [List.getElem?_eq_getElem this]
  rfl
theorem grown_iter (w : World) (s : ByteArray) (p : Nat) : w.grownBy (w.iter s p) none := grown_alloc (grown_refl _ _) _

theorem dec_ne (a b : List UInt8) : decide (a ≠ b) = !(a == b) := by
  by_cases h : a = b
  · subst h; simp
  · rw [beq_eq_false_iff_ne.2 h]; simp [h]
/-- The tests behind the loop, in the walk's words. -/
theorem partB_tests (s : ByteArray) (h : s.data.toList.all okC = true) : partB s.data.toList = (!s.toList.isEmpty && decide (s.size ≤ 64) && !(s.toList == [46]) && !(s.toList == [46, 46])) := by
  rw [partB, h, Lib.toList_data, size_len]
  generalize s.data.toList = l
  cases l with
  | nil => simp
  | cons c r =>
    simp only [Bool.true_and, List.isEmpty_cons, Bool.not_false, List.length_cons]
    have h0 : decide (0 < r.length + 1) = true := by simp
    rw [h0, Bool.true_and]
    rw [dec_ne, dec_ne]

set_option maxHeartbeats 4000000 in
theorem rightPart_any (s : ByteArray) (w : World) (hs : s.size < 1000000000) :
    Calls Tryd.prog 25 #[.string s] w (Val (.bool (partB s.data.toList)) w) := by
  go_enter Tryd.func25, Tryd.ntmps25
  go_wp2
  go_loopw [2] (fun _ w' => ∃ pos : Nat, w' = w.iter s pos ∧ pos ≤ s.size ∧ (s.data.toList.take pos).all okC = true) (fun _ w' => s.size - w'.iterPos w.heap.size)
  case atStart => exact ⟨0, rfl, Nat.zero_le _, by simp⟩
  case round =>
    obtain ⟨pos, rfl, hle, hall⟩ := hrel
    have HA := Lib.hid hall
    clear hall
    by_cases hp : pos < s.size
    · have hb := byte_getD s pos hp
      have HB := Lib.hid hb
      by_cases ha : (s[pos]'hp).toNat < 128
      · have hnx : ∀ ty, (Instr.next (.pointer (some ⟨w.heap.size, 0, none⟩)) true ty).run Tryd.prog (w.iter s pos) = _ := fun ty => run_next_ascii w s pos ty hp ha
        clear hb
        generalize s[pos] = c at *
        have HP := Lib.hid hp
        by_cases hk : okC c = true
        · have hk' := hk
          simp only [okC, Bool.and_eq_true, decide_eq_true_eq] at hk'
          have d1 : decide ((c.toNat : Int) < 33) = false := by simp; omega
          have d2 : decide (126 < (c.toNat : Int)) = false := by simp; omega
          have d3 : ((c.toNat : Int) == 92) = false := by simp; omega
          have HK := Lib.hid hk
          clear hk hk'
          go_wp2
          go_roundw
          case rel => exact ⟨pos + 1, rfl, by omega, by rw [all_take _ _ _ (by rw [← size_len]; exact hp) HA.out, ← HB.out]; exact HK.out⟩
          case measure =>
            simp
            omega
        · have hk2 : okC c = false := by simpa using hk
          have HK := Lib.hid hk2
          have hk' := hk2
          simp only [okC, Bool.and_eq_false_iff, decide_eq_false_iff_not] at hk'
          clear hk hk2
          have hret : ∀ W : World, w.grownBy W none → Val (.bool (partB s.data.toList)) w (.returned (.bool false)) W := fun W hW => ⟨by
            have h1 := all_not s.data.toList okC pos (by rw [← size_len]; exact HP.out) (by rw [← HB.out]; exact HK.out)
            simp [partB, h1], hW⟩
          have HR := Lib.hid hret
          clear hret
          by_cases k1 : c.toNat < 33
          · have d1 : decide ((c.toNat : Int) < 33) = true := by simp; omega
            clear hk'
            go_wp2
            go_ret
            exact HR.out _ (grown_iter w s _)
          · have d1 : decide ((c.toNat : Int) < 33) = false := by simp; omega
            by_cases k2 : 126 < c.toNat
            · have d2 : decide (126 < (c.toNat : Int)) = true := by simp; omega
              clear hk'
              go_wp2
              go_ret
              exact HR.out _ (grown_iter w s _)
            · have d2 : decide (126 < (c.toNat : Int)) = false := by simp; omega
              have d3 : ((c.toNat : Int) == 92) = true := by simp; omega
              clear hk'
              go_wp2
              go_ret
              exact HR.out _ (grown_iter w s _)
      · have hnx : ∀ ty, (Instr.next (.pointer (some ⟨w.heap.size, 0, none⟩)) true ty).run Tryd.prog (w.iter s pos) = _ := fun ty => run_next_any w s pos ty hp
        have hd := (decode_high s pos hp (by omega)).1
        have hk : okC (s.data.toList.getD pos 0) = false := by
          rw [← hb]
          simp only [okC, Bool.and_eq_false_iff, decide_eq_false_iff_not]
          omega
        have HR := Lib.hid (show ∀ W : World, w.grownBy W none → Val (.bool (partB s.data.toList)) w (.returned (.bool false)) W from fun W hW => ⟨by
            have h1 := all_not s.data.toList okC pos (by rw [← size_len]; exact hp) hk
            simp [partB, h1], hW⟩)
        clear hb hk
        generalize Utf8.decode s pos = ru at *
        have d1 : decide ((ru.1 : Int) < 33) = false := by simp; omega
        have d2 : decide (126 < (ru.1 : Int)) = true := by simp; omega
        go_wp2
        go_ret
        exact HR.out _ (grown_iter w s _)
    · have hnx : ∀ ty, (Instr.next (.pointer (some ⟨w.heap.size, 0, none⟩)) true ty).run Tryd.prog (w.iter s pos) = _ := fun ty => run_next_end w s pos ty hp
      have hall : s.data.toList.all okC = true := by
        have := HA.out
        rwa [List.take_of_length_le (by rw [← size_len]; omega)] at this
      have hpB := partB_tests s hall
      clear hall HA
      cases e0 : s.toList.isEmpty
      · by_cases hs64 : s.size ≤ 64
        · have e1 : decide ((s.size : Int) ≤ 64) = true := by simp; omega
          cases e2 : s.toList == [46]
          · cases e3 : s.toList == [46, 46]
            · have HB := Lib.hid (show partB s.data.toList = true by rw [hpB, e0, e2, e3]; simp [hs64])
              clear hpB hs64
              go_wp2
              go_ret
              exact ⟨by rw [HB.out]; rfl, grown_iter w s _⟩
            · have HB := Lib.hid (show partB s.data.toList = false by rw [hpB, e3]; simp)
              clear hpB hs64
              go_wp2
              go_ret
              exact ⟨by rw [HB.out]; rfl, grown_iter w s _⟩
          · have HB := Lib.hid (show partB s.data.toList = false by rw [hpB, e2]; simp)
            clear hpB hs64
            go_wp2
            go_ret
            exact ⟨by rw [HB.out]; rfl, grown_iter w s _⟩
        · have e1 : decide ((s.size : Int) ≤ 64) = false := by simp; omega
          have HB := Lib.hid (show partB s.data.toList = false by rw [hpB]; simp [hs64])
          clear hpB hs64
          go_wp2
          go_ret
          exact ⟨by rw [HB.out]; rfl, grown_iter w s _⟩
      · have HB := Lib.hid (show partB s.data.toList = false by rw [hpB, e0]; simp)
        clear hpB
        go_wp2
        go_ret
        exact ⟨by rw [HB.out]; rfl, grown_iter w s _⟩
end Go.Proofs.YtohndlfekecfoaaDoor
