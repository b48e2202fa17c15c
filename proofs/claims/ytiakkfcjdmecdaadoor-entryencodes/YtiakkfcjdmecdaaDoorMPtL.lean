/-
  Several texts in one file.
-/
import Derived.Test.YtiakkfcjdmecdaaDoorPtM
import Derived.Test.YtiakkfcjdmecdaaDoorPtShelf
import Derived.Test.YtiakkfcjdmecdaaDoorMMem
import Derived.Lib.IndexBytes
import Derived.Lib.CutLaws
import Derived.Laws.RangeAny
import Derived.LoopTactic
import Derived.Below
import Derived.Lib.LastIndexByte
/-
  The library's Cut, Split, LastIndex and HasPrefix at a slash, over this program, in the words of PtM.
-/
namespace Go.Proofs.YtiakkfcjdmecdaaDoor
set_option maxRecDepth 1000000
open Go.RowKit

/-- A text of the mathematics as a string; several as cells. -/
def bts (l : List UInt8) : ByteArray := ⟨l.toArray⟩
theorem bts_data (l : List UInt8) : (bts l).data.toList = l := rfl
theorem bts_of (s : ByteArray) : bts s.data.toList = s := by cases s; rfl
theorem bts_size (l : List UInt8) : (bts l).size = l.length := by show l.toArray.size = _; simp
theorem size_len (s : ByteArray) : s.size = s.data.toList.length := by cases s; rfl
theorem bts_inj {a b : List UInt8} (h : bts a = bts b) : a = b := by have := congrArg (fun s : ByteArray => s.data.toList) h; exact this
theorem of_data {a b : ByteArray} (h : a.data.toList = b.data.toList) : a = b := by rw [← bts_of a, ← bts_of b, h]
def strsV (l : List (List UInt8)) : List Value := l.map fun p => .string (bts p)
theorem strsV_len (l : List (List UInt8)) : (strsV l).length = l.length := by simp [strsV]
theorem strsV_at (l : List (List UInt8)) (k : Nat) (h : k < l.length) : (strsV l)[k]? = some (.string (bts (l.getD k []))) := by simp [strsV, List.getElem?_eq_getElem h]
theorem strsV_of (l : List ByteArray) : l.map (fun z : ByteArray => Value.string z) = strsV (l.map fun z => z.data.toList) := by simp [strsV, bts_of]
/-- What a call answers that makes a new row of texts. -/
def RowOut (w : World) (l : List (List UInt8)) (e : Ending) (w' : World) : Prop :=
  ∃ v, e = .returned v ∧ Rd w' v (strsV l) ∧ w.grownBy w' none ∧ ∀ b, v.ownBlock = some b → w.heap.size ≤ b ∧ b < w'.heap.size

theorem slash_data : (⟨#[47]⟩ : ByteArray).data.toList = [47] := rfl
theorem pIndex (s : ByteArray) (w : World) : Calls Tryd.prog 99 #[.string s, .string ⟨#[47]⟩] w fun e w' => e = .returned (.int .i64 (Lib.index s.data.toList [47])) ∧ w' = w := by
  rw [Lib.index_one]
  exact sh_lIndex s 47 w
theorem cut_of (s : ByteArray) : ∃ i : Int, Lib.index s.data.toList [47] = i ∧
    ((i = -1 ∧ parts s.data.toList = [s.data.toList]) ∨ ∃ k : Nat, i = k ∧ k < s.size ∧ parts s.data.toList = (s.extract 0 k).data.toList :: parts (s.extract (k + 1) s.size).data.toList) := by
  refine ⟨_, rfl, ?_⟩
  rcases index_parts s.data.toList with ⟨h1, _, h2⟩ | ⟨k, h1, h2, h3⟩
  · exact .inl ⟨h1, h2⟩
  · refine .inr ⟨k, h1, by rw [size_len]; exact h2, ?_⟩
    rw [h3, Lib.extract_from_zero, Lib.extract_to_end]

/-- What Cut answers of a text: what stands ahead of its first slash, and behind. -/
def CutOut (s : ByteArray) (w : World) (e : Ending) (w' : World) : Prop :=
  ∃ x y b, e = .returned (.tuple #[.string x, .string y, .bool b]) ∧ w.grownBy w' none ∧
    ((b = true ∧ parts s.data.toList = x.data.toList :: parts y.data.toList ∧ y.size < s.size) ∨ (b = false ∧ parts s.data.toList = [x.data.toList]))
set_option maxHeartbeats 2000000 in
theorem lcut_any (s : ByteArray) (w : World) (hs : s.size < 1000000000) : Calls Tryd.prog 94 #[.string s, .string ⟨#[47]⟩] w (CutOut s w) := by
  obtain ⟨i, hi, h⟩ := cut_of s
  have HI := Lib.hid (hi ▸ pIndex s w)
  clear hi
  rcases h with ⟨rfl, hp⟩ | ⟨k, rfl, hk, hp⟩
  · have HP := Lib.hid hp
    clear hp
    go_enter Tryd.func94, Tryd.ntmps94
    go_wp2_with (go_at_call 99; refine HI.out.mono ?_; rintro e w' ⟨rfl, rfl⟩)
    go_ret3
    exact ⟨_, _, _, rfl, grown_refl _ _, .inr ⟨rfl, HP.out⟩⟩
  · have HP := Lib.hid hp
    clear hp
    have c1 : (0 : Int) ≤ (k : Int) := by omega
    have c2 : (k : Int) ≤ (s.size : Int) := by omega
    have c3 : (0 : Int) ≤ (k : Int) + 1 := by omega
    have c4 : (k : Int) + 1 ≤ (s.size : Int) := by omega
    go_enter Tryd.func94, Tryd.ntmps94
    go_wp2_with (go_at_call 99; refine HI.out.mono ?_; rintro e w' ⟨rfl, rfl⟩)
    go_region
    go_wp2
    go_ret3
    refine ⟨_, _, _, rfl, grown_drew (grown_refl _ _), .inl ⟨rfl, HP.out, ?_⟩⟩
    simp
    omega
theorem cut_any (s : ByteArray) (w : World) (hs : s.size < 1000000000) : Calls Tryd.prog 86 #[.string s, .string ⟨#[47]⟩] w (CutOut s w) := by
  have H := Lib.hid (fun w' => lcut_any s w' hs)
  go_enter Tryd.func86, Tryd.ntmps86
  go_wp2_with fail
  refine (H.out _).mono ?_
  rintro e w1 ⟨x, y, b, rfl, hg, h⟩
  have HG := Lib.hid hg
  have H2 := Lib.hid h
  clear hg h H
  go_wp2
  go_ret3
  exact ⟨_, _, _, rfl, HG.out, H2.out⟩

theorem split_len (s : ByteArray) : Lib.countB s ⟨#[47]⟩ + 1 = (parts s.data.toList).length := by
  rw [parts_len]
  show Lib.count s.data.toList [47] + 1 = _
  rw [Lib.count_one]
theorem split_row (s : ByteArray) : (Lib.splitB ⟨#[47]⟩ 0 (Lib.countB s ⟨#[47]⟩) s).map Value.string = strsV (parts s.data.toList) := by
  have h := Lib.splitB_data ⟨#[47]⟩ 0 (Lib.countB s ⟨#[47]⟩) s
  have h2 : Lib.splitK (⟨#[47]⟩ : ByteArray).data.toList 0 (Lib.countB s ⟨#[47]⟩) s.data.toList = parts s.data.toList := splitK_parts _ _ (split_len s).symm
  rw [h2] at h
  rw [← h]
  simp [strsV, bts_of]
set_option maxHeartbeats 1000000 in
theorem split_any (s : ByteArray) (w : World) (hs : s.size < 1000000000) : Calls Tryd.prog 61 #[.string s, .string ⟨#[47]⟩] w (RowOut w (parts s.data.toList)) := by
  have hlen := split_len s
  have hle : (parts s.data.toList).length ≤ s.size + 1 := by rw [parts_len, size_len]; have := List.count_le_length (a := (47 : UInt8)) (l := s.data.toList); omega
  have hI : ∀ (x : ByteArray) (c : Array Value), x.size ≤ s.size → Calls Tryd.prog 93 #[.string x, .string ⟨#[47]⟩] (w.alloc (.cells c 9)) fun e w' => e = .returned (.int .i64 (Lib.indexB x ⟨#[47]⟩)) ∧ w' = w.alloc (.cells c 9) := by
    intro x c _
    show Calls _ _ _ _ fun e w' => e = .returned (.int .i64 (Lib.index x.data.toList [47])) ∧ _
    rw [Lib.index_one]
    exact sh_Index x 47 _
  have hC : Calls Tryd.prog 92 #[.string s, .string ⟨#[47]⟩] w fun e w' => e = .returned (.int .i64 (Lib.countB s ⟨#[47]⟩)) ∧ w' = w := by
    show Calls _ _ _ _ fun e w' => e = .returned (.int .i64 ((Lib.count s.data.toList [47] : Nat) : Int)) ∧ _
    rw [Lib.count_one]
    exact sh_Count s 47 w
  have c := Any.strings_genSplit_core lays221 (by kernel_rfl) s ⟨#[47]⟩ 0 (-1) (Lib.countB s ⟨#[47]⟩ + 1) w (by omega) (by decide) (Nat.zero_le _) hI hC (by decide) (by decide) (by rw [if_pos (by decide)]; omega)
  have hall := Lib.splitB_all ⟨#[47]⟩ (by decide) 0 _ s rfl
  rw [Nat.add_sub_cancel, hall] at c
  have e2 : Lib.cellsOf (Lib.splitB ⟨#[47]⟩ 0 (Lib.countB s ⟨#[47]⟩) s) (Lib.countB s ⟨#[47]⟩ + 1) = (strsV (parts s.data.toList)).toArray := by rw [← split_row, ← hall]; exact Lib.cellsOf_full _
  rw [e2, hlen, ← strsV_len (parts s.data.toList)] at c
  have hF : Rd (w.alloc (.cells (strsV (parts s.data.toList)).toArray 9)) (.slice (some ⟨w.heap.size, 0, none⟩) (strsV (parts s.data.toList)).length (strsV (parts s.data.toList)).length) (strsV (parts s.data.toList)) :=
    Rd.new w _ 9 (0, 0) _ (Nat.le_refl _) (by rw [strsV_len]; simp only [maxLen]; omega)
  have hF2 : ∃ v, v = .slice (some ⟨w.heap.size, 0, none⟩) (strsV (parts s.data.toList)).length (strsV (parts s.data.toList)).length ∧ Rd (w.alloc (.cells (strsV (parts s.data.toList)).toArray 9)) v (strsV (parts s.data.toList)) ∧ w.grownBy (w.alloc (.cells (strsV (parts s.data.toList)).toArray 9)) none ∧ ∀ b, v.ownBlock = some b → w.heap.size ≤ b ∧ b < (w.alloc (.cells (strsV (parts s.data.toList)).toArray 9)).heap.size :=
    ⟨_, rfl, hF, grown_alloc (grown_refl _ _) _, fun b hb => by cases hb; simp⟩
  obtain ⟨v, hv, hF3⟩ := hF2
  have c' : Calls Tryd.prog 84 #[.string s, .string ⟨#[47]⟩, .int .i64 0, .int .i64 (-1)] w fun e w' => e = .returned v ∧ w' = w.alloc (.cells (strsV (parts s.data.toList)).toArray 9) := by rw [hv]; exact c
  have H := Lib.hid c'
  have HF := Lib.hid hF3
  clear hI hC c c' hall e2 hlen hle hF hF3 hv
  go_enter Tryd.func61, Tryd.ntmps61
  go_wp2_with fail
  refine H.out.mono ?_
  rintro e w1 ⟨rfl, hw⟩
  have HW := Lib.hid hw
  clear H hw
  go_wp2
  go_ret
  exact ⟨v, rfl, by rw [HW.out]; exact HF.out⟩

end Go.Proofs.YtiakkfcjdmecdaaDoor

/-
  path.rightPart over this program: may a text be a part?
-/
namespace Go.Proofs.YtiakkfcjdmecdaaDoor
set_option maxRecDepth 1000000
open Go.RowKit

theorem all_take (l : List UInt8) (f : UInt8 → Bool) (k : Nat) (h : k < l.length) (ha : (l.take k).all f = true) : (l.take (k + 1)).all f = f (l.getD k 0) := by
  rw [List.take_add_one, List.getElem?_eq_getElem h, List.all_append, ha]
  simp [List.getElem?_eq_getElem h]
theorem all_not (l : List UInt8) (f : UInt8 → Bool) (k : Nat) (h : k < l.length) (ha : f (l.getD k 0) = false) : l.all f = false := by
  rw [List.all_eq_false]
  exact ⟨l.getD k 0, by simp [List.getElem?_eq_getElem h], by rw [ha]; decide⟩
theorem byte_getD (s : ByteArray) (k : Nat) (h : k < s.size) : s[k] = s.data.toList.getD k 0 := by
  have : k < s.data.toList.length := by rw [← size_len]; exact h
  simp [List.getElem?_eq_getElem this]
  rfl
theorem grown_iter (w : World) (s : ByteArray) (p : Nat) : w.grownBy (w.iter s p) none := grown_alloc (grown_refl _ _) _

theorem dec_ne (a b : List UInt8) : decide (a ≠ b) = !(a == b) := by
  by_cases h : a = b
  · subst h; simp
  · rw [beq_eq_false_iff_ne.2 h]; simp [h]
/-- The tests behind the loop, in the walk's words. -/
theorem partB_tests (s : ByteArray) (h : s.data.toList.all okC = true) : partB s.data.toList = (!s.toList.isEmpty && decide (s.size ≤ 64) && !(s.toList == [46]) && !(s.toList == [46, 46])) := by
  rw [partB, h, Lib.toList_data, size_len]
  generalize s.data.toList = l
  cases l with
  | nil => simp
  | cons c r =>
    simp only [Bool.true_and, List.isEmpty_cons, Bool.not_false, List.length_cons]
    have h0 : decide (0 < r.length + 1) = true := by simp
    rw [h0, Bool.true_and]
    rw [dec_ne, dec_ne]

set_option maxHeartbeats 4000000 in
theorem rightPart_any (s : ByteArray) (w : World) (hs : s.size < 1000000000) :
    Calls Tryd.prog 59 #[.string s] w (Val (.bool (partB s.data.toList)) w) := by
  go_enter Tryd.func59, Tryd.ntmps59
  go_wp2
  go_loopw [2] (fun _ w' => ∃ pos : Nat, w' = w.iter s pos ∧ pos ≤ s.size ∧ (s.data.toList.take pos).all okC = true) (fun _ w' => s.size - w'.iterPos w.heap.size)
  case atStart => exact ⟨0, rfl, Nat.zero_le _, by simp⟩
  case round =>
    obtain ⟨pos, rfl, hle, hall⟩ := hrel
    have HA := Lib.hid hall
    clear hall
    by_cases hp : pos < s.size
    · have hb := byte_getD s pos hp
      have HB := Lib.hid hb
      by_cases ha : (s[pos]'hp).toNat < 128
      · have hnx : ∀ ty, (Instr.next (.pointer (some ⟨w.heap.size, 0, none⟩)) true ty).run Tryd.prog (w.iter s pos) = _ := fun ty => run_next_ascii w s pos ty hp ha
        clear hb
        generalize s[pos] = c at *
        have HP := Lib.hid hp
        by_cases hk : okC c = true
        · have hk' := hk
          simp only [okC, Bool.and_eq_true, decide_eq_true_eq] at hk'
          have d1 : decide ((c.toNat : Int) < 33) = false := by simp; omega
          have d2 : decide (126 < (c.toNat : Int)) = false := by simp; omega
          have d3 : ((c.toNat : Int) == 92) = false := by simp; omega
          have HK := Lib.hid hk
          clear hk hk'
          go_wp2
          go_roundw
          case rel => exact ⟨pos + 1, rfl, by omega, by rw [all_take _ _ _ (by rw [← size_len]; exact hp) HA.out, ← HB.out]; exact HK.out⟩
          case measure =>
            simp
            omega
        · have hk2 : okC c = false := by simpa using hk
          have HK := Lib.hid hk2
          have hk' := hk2
          simp only [okC, Bool.and_eq_false_iff, decide_eq_false_iff_not] at hk'
          clear hk hk2
          have hret : ∀ W : World, w.grownBy W none → Val (.bool (partB s.data.toList)) w (.returned (.bool false)) W := fun W hW => ⟨by
            have h1 := all_not s.data.toList okC pos (by rw [← size_len]; exact HP.out) (by rw [← HB.out]; exact HK.out)
            simp [partB, h1], hW⟩
          have HR := Lib.hid hret
          clear hret
          by_cases k1 : c.toNat < 33
          · have d1 : decide ((c.toNat : Int) < 33) = true := by simp; omega
            clear hk'
            go_wp2
            go_ret
            exact HR.out _ (grown_iter w s _)
          · have d1 : decide ((c.toNat : Int) < 33) = false := by simp; omega
            by_cases k2 : 126 < c.toNat
            · have d2 : decide (126 < (c.toNat : Int)) = true := by simp; omega
              clear hk'
              go_wp2
              go_ret
              exact HR.out _ (grown_iter w s _)
            · have d2 : decide (126 < (c.toNat : Int)) = false := by simp; omega
              have d3 : ((c.toNat : Int) == 92) = true := by simp; omega
              clear hk'
              go_wp2
              go_ret
              exact HR.out _ (grown_iter w s _)
      · have hnx : ∀ ty, (Instr.next (.pointer (some ⟨w.heap.size, 0, none⟩)) true ty).run Tryd.prog (w.iter s pos) = _ := fun ty => run_next_any w s pos ty hp
        have hd := (decode_high s pos hp (by omega)).1
        have hk : okC (s.data.toList.getD pos 0) = false := by
          rw [← hb]
          simp only [okC, Bool.and_eq_false_iff, decide_eq_false_iff_not]
          omega
        have HR := Lib.hid (show ∀ W : World, w.grownBy W none → Val (.bool (partB s.data.toList)) w (.returned (.bool false)) W from fun W hW => ⟨by
            have h1 := all_not s.data.toList okC pos (by rw [← size_len]; exact hp) hk
            simp [partB, h1], hW⟩)
        clear hb hk
        generalize Utf8.decode s pos = ru at *
        have d1 : decide ((ru.1 : Int) < 33) = false := by simp; omega
        have d2 : decide (126 < (ru.1 : Int)) = true := by simp; omega
        go_wp2
        go_ret
        exact HR.out _ (grown_iter w s _)
    · have hnx : ∀ ty, (Instr.next (.pointer (some ⟨w.heap.size, 0, none⟩)) true ty).run Tryd.prog (w.iter s pos) = _ := fun ty => run_next_end w s pos ty hp
      have hall : s.data.toList.all okC = true := by
        have := HA.out
        rwa [List.take_of_length_le (by rw [← size_len]; omega)] at this
      have hpB := partB_tests s hall
      clear hall HA
      cases e0 : s.toList.isEmpty
      · by_cases hs64 : s.size ≤ 64
        · have e1 : decide ((s.size : Int) ≤ 64) = true := by simp; omega
          cases e2 : s.toList == [46]
          · cases e3 : s.toList == [46, 46]
            · have HB := Lib.hid (show partB s.data.toList = true by rw [hpB, e0, e2, e3]; simp [hs64])
              clear hpB hs64
              go_wp2
              go_ret
              exact ⟨by rw [HB.out]; rfl, grown_iter w s _⟩
            · have HB := Lib.hid (show partB s.data.toList = false by rw [hpB, e3]; simp)
              clear hpB hs64
              go_wp2
              go_ret
              exact ⟨by rw [HB.out]; rfl, grown_iter w s _⟩
          · have HB := Lib.hid (show partB s.data.toList = false by rw [hpB, e2]; simp)
            clear hpB hs64
            go_wp2
            go_ret
            exact ⟨by rw [HB.out]; rfl, grown_iter w s _⟩
        · have e1 : decide ((s.size : Int) ≤ 64) = false := by simp; omega
          have HB := Lib.hid (show partB s.data.toList = false by rw [hpB]; simp [hs64])
          clear hpB hs64
          go_wp2
          go_ret
          exact ⟨by rw [HB.out]; rfl, grown_iter w s _⟩
      · have HB := Lib.hid (show partB s.data.toList = false by rw [hpB, e0]; simp)
        clear hpB
        go_wp2
        go_ret
        exact ⟨by rw [HB.out]; rfl, grown_iter w s _⟩
end Go.Proofs.YtiakkfcjdmecdaaDoor

/-
  path.Right and path.Parts over this program.
-/
namespace Go.Proofs.YtiakkfcjdmecdaaDoor
set_option maxRecDepth 1000000
open Go.RowKit

theorem part_le (s : List UInt8) : ∀ p ∈ parts s, p.length ≤ s.length := by
  induction s with
  | nil => simp [parts]
  | cons c r ih =>
    by_cases hc : c = 47
    · subst hc; rw [parts_slash]; intro p hp
      rcases List.mem_cons.1 hp with rfl | hp
      · simp
      · have := ih p hp; simp only [List.length_cons]; omega
    · obtain ⟨p, q, h1, h2⟩ := parts_cons c hc r
      rw [h1] at ih
      rw [h2]
      intro x hx
      rcases List.mem_cons.1 hx with rfl | hx
      · have := ih p (by simp); simp only [List.length_cons]; omega
      · have := ih x (by simp [hx]); simp only [List.length_cons]; omega

theorem none_any (s : ByteArray) (w : World) (hs : s.size < 1000000000) :
    Calls Tryd.prog 58 #[.string s] w (Val (.bool (!partB s.data.toList)) w) := by
  have H := Lib.hid (fun w' => rightPart_any s w' hs)
  go_enter Tryd.func58, Tryd.ntmps58
  go_wp2_with fail
  refine (H.out _).mono ?_
  rintro e w1 ⟨rfl, hg⟩
  have HG := Lib.hid hg
  clear hg H
  go_wp2
  go_ret
  exact ⟨rfl, HG.out⟩

theorem strs_at (l : List (List UInt8)) {k : Nat} {u : Value} (hu : (strsV l)[k]? = some u) : k < l.length ∧ u = .string (bts (l.getD k [])) := by
  have hk : k < l.length := by
    by_cases h : k < l.length
    · exact h
    · rw [List.getElem?_eq_none (by rw [strsV_len]; omega)] at hu; cases hu
  rw [strsV_at l k hk] at hu
  exact ⟨hk, (Option.some.inj hu).symm⟩

theorem all_takeL (l : List (List UInt8)) (f : List UInt8 → Bool) (k : Nat) (h : k < l.length) (ha : (l.take k).all f = true) : (l.take (k + 1)).all f = f (l.getD k []) := by
  rw [List.take_add_one, List.getElem?_eq_getElem h, List.all_append, ha]
  simp [List.getElem?_eq_getElem h]
theorem all_notL (l : List (List UInt8)) (f : List UInt8 → Bool) (k : Nat) (h : k < l.length) (ha : f (l.getD k []) = false) : l.all f = false := by
  rw [List.all_eq_false]
  exact ⟨l.getD k [], by simp [List.getElem?_eq_getElem h], by rw [ha]; decide⟩

set_option maxHeartbeats 4000000 in
theorem indexFunc_any (v : Value) (L : List (List UInt8)) (w : World) (hr : Rd w v (strsV L)) (hL : L.length ≤ 1000000000) (hs : ∀ p ∈ L, p.length < 1000000000) :
    Calls Tryd.prog 83 #[v, .func (.func 58) #[] #[]] w
      (fun e w' => ∃ i : Int, e = .returned (.int .i64 i) ∧ decide (0 ≤ i) = !(L.all partB) ∧ w.grownBy w' none) := by
  obtain ⟨A, c, rfl⟩ := hr.form
  rw [strsV_len] at hr ⊢
  have HR := Lib.hid hr
  have HS := Lib.hid hs
  clear hr hs
  go_enter Tryd.func83, Tryd.ntmps83
  go_wp2
  go_loopw [8] (fun i W => ∃ k : Nat, i = .int .i64 k ∧ k ≤ L.length ∧ (L.take k).all partB = true ∧ w.grownBy W none) (fun i _ => L.length - (intOf i).toNat)
  case atStart => exact ⟨0, rfl, Nat.zero_le _, by simp, grown_refl _ _⟩
  case round =>
    obtain ⟨k, rfl, hk, hall, hg⟩ := hrel
    have HA := Lib.hid hall
    have HG := Lib.hid hg
    clear hall hg
    by_cases h : k < L.length
    · obtain ⟨ad, u, rfl, hu, hc⟩ := (HR.out.grown0 HG.out).cellAt (k := k) h
      obtain ⟨_, rfl⟩ := strs_at L hu
      clear hu
      have d0 : decide ((k : Int) < (L.length : Int)) = true := by simp; omega
      have hsz : (bts (L.getD k [])).size < 1000000000 := by
        rw [bts_size]; exact HS.out _ (by simp [List.getElem?_eq_getElem h])
      have HC := Lib.hid (fun w' => none_any (bts (L.getD k [])) w' hsz)
      have HT := Lib.hid (all_takeL L partB k h HA.out)
      have HN := Lib.hid (all_notL L partB k h)
      clear hsz
      generalize L.getD k [] = p at *
      go_wp2_with fail
      refine (HC.out _).mono ?_
      rintro e w1 ⟨rfl, hg1⟩
      have HG1 := Lib.hid (World.grownBy.trans HG.out hg1)
      clear hg1
      rw [bts_data]
      cases hp : partB p
      · go_wp2
        go_ret
        exact ⟨_, rfl, by rw [HN.out hp]; simp, HG1.out⟩
      · go_wp2
        go_roundw
        case rel => exact ⟨k + 1, by go_num, by omega, by rw [HT.out]; exact hp, HG1.out⟩
        case measure =>
          simp [intOf]
          omega
    · have d0 : decide ((k : Int) < (L.length : Int)) = false := by simp; omega
      go_wp2
      go_ret
      refine ⟨_, rfl, ?_, HG.out⟩
      have := HA.out
      rw [List.take_of_length_le (by omega)] at this
      rw [this]
      decide

theorem containsFunc_any (v : Value) (L : List (List UInt8)) (w : World) (hr : Rd w v (strsV L)) (hL : L.length ≤ 1000000000) (hs : ∀ p ∈ L, p.length < 1000000000) :
    Calls Tryd.prog 60 #[v, .func (.func 58) #[] #[]] w (Val (.bool (!(L.all partB))) w) := by
  have H := Lib.hid (indexFunc_any v L w hr hL hs)
  clear hr hL hs
  go_enter Tryd.func60, Tryd.ntmps60
  go_wp2_with fail
  refine H.out.mono ?_
  rintro e w1 ⟨i, rfl, hi, hg⟩
  have HG := Lib.hid hg
  clear hg H
  generalize (!(L.all partB)) = b at *
  go_wp2
  go_ret
  exact ⟨by rw [← hi]; rfl, HG.out⟩

theorem parts_size (s : ByteArray) : (parts s.data.toList).length ≤ s.size + 1 := by
  rw [parts_len, size_len]
  have := List.count_le_length (a := (47 : UInt8)) (l := s.data.toList)
  omega

set_option maxHeartbeats 1000000 in
theorem right_any (s : ByteArray) (w : World) (hs : s.size < 1000000000) :
    Calls Tryd.prog 34 #[.string s] w (Val (.bool (rightB s.data.toList)) w) := by
  have hsl := size_len s
  by_cases h : s.size ≤ 256
  · have d0 : decide ((s.size : Int) ≤ 256) = true := by simp; omega
    have HC := Lib.hid (split_any s w hs)
    have HL := Lib.hid (parts_size s)
    have HP := Lib.hid (part_le s.data.toList)
    have HB := Lib.hid (show rightB s.data.toList = (parts s.data.toList).all partB by rw [rightB, ← hsl]; simp [h])
    have HS := Lib.hid hs
    have HSL := Lib.hid hsl
    clear hsl h hs
    go_enter Tryd.func34, Tryd.ntmps34
    go_wp2_with fail
    refine HC.out.mono ?_
    rintro e w1 ⟨v, rfl, hr, hg, _⟩
    have HG := Lib.hid hg
    have HR := Lib.hid (containsFunc_any v (parts s.data.toList) w1 hr (by have := HL.out; have := HS.out; omega) (fun p hp => by have := HP.out p hp; have := HS.out; have := HSL.out; omega))
    clear hg hr HC
    go_wp2_with fail
    refine HR.out.mono ?_
    rintro e w2 ⟨rfl, hg2⟩
    have HG2 := Lib.hid (World.grownBy.trans HG.out hg2)
    clear hg2 HR
    cases hb : (parts s.data.toList).all partB
    all_goals
      go_wp2
      go_ret
      exact ⟨by rw [HB.out, hb]; rfl, HG2.out⟩
  · have d0 : decide ((s.size : Int) ≤ 256) = false := by simp; omega
    have HB := Lib.hid (show rightB s.data.toList = false by rw [rightB, ← hsl]; simp [h])
    clear h hs hsl
    go_enter Tryd.func34, Tryd.ntmps34
    go_wp2
    go_ret
    exact ⟨by rw [HB.out]; rfl, grown_refl _ _⟩

end Go.Proofs.YtiakkfcjdmecdaaDoor

/-
  path.Compare over this program.
-/
namespace Go.Proofs.YtiakkfcjdmecdaaDoor
set_option maxRecDepth 1000000
open Go.RowKit

def strSize : Value → Nat
  | .string s => s.size
  | _ => 0
theorem str_eq (a b : ByteArray) : (a.toList == b.toList) = decide (a.data.toList = b.data.toList) := by
  rw [Lib.toList_data, Lib.toList_data]
  by_cases h : a.data.toList = b.data.toList
  · rw [h]; simp
  · rw [beq_eq_false_iff_ne.2 h]; simp [h]

theorem one_of {P Q R : Prop} (h : (false = true ∧ P ∧ Q) ∨ (false = false ∧ R)) : R := by
  rcases h with h | h
  · cases h.1
  · exact h.2
theorem more_of {P Q R : Prop} (h : (true = true ∧ P ∧ Q) ∨ (true = false ∧ R)) : P ∧ Q := by
  rcases h with h | h
  · exact h.2
  · cases h.1

set_option maxHeartbeats 4000000 in
theorem compare_any (a b : ByteArray) (w : World) (ha : a.size < 1000000000) (hb : b.size < 1000000000) :
    Calls Tryd.prog 64 #[.string a, .string b] w (Val (.int .i64 (cmpP a.data.toList b.data.toList)) w) := by
  have HAB := Lib.hid (And.intro ha hb)
  clear ha hb
  generalize hC : cmpP a.data.toList b.data.toList = C at *
  go_enter Tryd.func64, Tryd.ntmps64
  go_wp2
  go_loopw [0, 1] (fun u v W => ∃ x y : ByteArray, u = .string x ∧ v = .string y ∧ x.size < 1000000000 ∧ y.size < 1000000000 ∧ cmpP x.data.toList y.data.toList = C ∧ w.grownBy W none) (fun u _ _ => strSize u)
  case atStart => exact ⟨a, b, rfl, rfl, HAB.out.1, HAB.out.2, hC, grown_refl _ _⟩
  case round =>
    clear hC HAB
    obtain ⟨x, y, rfl, rfl, hx, hy, hc, hg⟩ := hrel
    have HX := Lib.hid (And.intro hx hy)
    have H1 := Lib.hid (fun w' => cut_any x w' hx)
    have H2 := Lib.hid (fun w' => cut_any y w' hy)
    have HC := Lib.hid hc
    have HG := Lib.hid hg
    clear hx hy hc hg
    go_wp2_with fail
    refine (H1.out _).mono ?_
    rintro e w1 ⟨x1, x2, b1, rfl, hg1, hx⟩
    have HG1 := Lib.hid (World.grownBy.trans HG.out hg1)
    have HP1 := Lib.hid hx
    clear hg1 hx H1
    go_wp2_with fail
    refine (H2.out _).mono ?_
    rintro e w2 ⟨y1, y2, b2, rfl, hg2, hy⟩
    have HG2 := Lib.hid (World.grownBy.trans HG1.out hg2)
    have HP2 := Lib.hid hy
    clear hg2 hy H2
    have hse := str_eq x1 y1
    by_cases hxy : x1.data.toList = y1.data.toList
    · have hd : (x1.toList == y1.toList) = true := by rw [hse]; simp [hxy]
      have HXY := Lib.hid hxy
      clear hse hxy
      cases b1
      · have e1 : parts x.data.toList = [x1.data.toList] := by exact one_of HP1.out
        cases b2
        · have e2 : parts y.data.toList = [y1.data.toList] := by exact one_of HP2.out
          have HE := Lib.hid (show C = 0 by rw [← HC.out, cmpP, e1, e2, cmpL_cons, if_pos HXY.out]; rfl)
          clear e1 e2
          go_wp2
          go_ret
          exact ⟨by rw [HE.out]; rfl, HG2.out⟩
        · have e2 : parts y.data.toList = y1.data.toList :: parts y2.data.toList := by exact (more_of HP2.out).1
          have HE := Lib.hid (show C = -1 by rw [← HC.out, cmpP, e1, e2, cmpL_cons, if_pos HXY.out, cmpL_nil _ (parts_ne _)])
          clear e1 e2
          go_wp2
          go_ret
          exact ⟨by rw [HE.out]; rfl, HG2.out⟩
      · have e1 : parts x.data.toList = x1.data.toList :: parts x2.data.toList := by exact (more_of HP1.out).1
        have hlt : x2.size < x.size := by exact (more_of HP1.out).2
        cases b2
        · have e2 : parts y.data.toList = [y1.data.toList] := by exact one_of HP2.out
          have HE := Lib.hid (show C = 1 by rw [← HC.out, cmpP, e1, e2, cmpL_cons, if_pos HXY.out, cmpL_nil' _ (parts_ne _)])
          clear e1 e2 hlt
          go_wp2
          go_ret
          exact ⟨by rw [HE.out]; rfl, HG2.out⟩
        · have e2 : parts y.data.toList = y1.data.toList :: parts y2.data.toList := by exact (more_of HP2.out).1
          have hlt2 : y2.size < y.size := by exact (more_of HP2.out).2
          have HE := Lib.hid (show cmpP x2.data.toList y2.data.toList = C by rw [← HC.out, cmpP, cmpP, e1, e2, cmpL_cons, if_pos HXY.out])
          have HS := Lib.hid (And.intro hlt (show x2.size < 1000000000 ∧ y2.size < 1000000000 by have := HX.out; omega))
          clear e1 e2 hlt hlt2
          go_wp2
          exact ⟨⟨x2, y2, rfl, rfl, HS.out.2.1, HS.out.2.2, HE.out, HG2.out⟩, HS.out.1⟩
    · have hd : (x1.toList == y1.toList) = false := by rw [hse]; simp [hxy]
      have HXY := Lib.hid hxy
      clear hse hxy
      go_wp2_with fail
      refine (sh_Compare _ _ _).mono ?_
      rintro e w3 ⟨rfl, rfl⟩
      go_wp2
      go_ret
      refine ⟨?_, HG2.out⟩
      have he : C = cmpT x1.data.toList y1.data.toList := by
        rw [← HC.out, cmpP]
        rcases HP1.out with ⟨_, e1, _⟩ | ⟨_, e1⟩ <;> rcases HP2.out with ⟨_, e2, _⟩ | ⟨_, e2⟩ <;> rw [e1, e2, cmpL_cons, if_neg HXY.out]
      rw [he, cmpT, ← compare_cmp]
      rfl
end Go.Proofs.YtiakkfcjdmecdaaDoor

/-
  path.Parent, path.Below and path.Sorted over this program.
-/
namespace Go.Proofs.YtiakkfcjdmecdaaDoor
set_option maxRecDepth 1000000
open Go.RowKit

theorem bang_getD (s : ByteArray) (j : Nat) (hj : j < s.size) : ((s.data[j]!).toNat : Int) = ((s.data.toList.getD j 0).toNat : Int) := by
  have : j < s.data.toList.length := by rw [← size_len]; exact hj
  have h2 : j < s.data.size := hj
  rw [getElem!_pos s.data j h2, List.getD_eq_getElem?_getD, List.getElem?_eq_getElem this]
  simp
theorem parent_of (s : ByteArray) : (Lib.lastIndexByte s 47 = -1 ∧ parentB s.data.toList = []) ∨
    ∃ k : Nat, Lib.lastIndexByte s 47 = k ∧ k < s.size ∧ (rightB s.data.toList = true → bts (parentB s.data.toList) = s.extract 0 k) := by
  have hl := size_len s
  rcases Lib.lastIdx_spec s 47 s.size with ⟨h1, h2⟩ | ⟨k, hk, h1, h2, h3⟩
  · refine .inl ⟨h1, ?_⟩
    have hn : (47 : UInt8) ∉ s.data.toList := by
      intro hm
      obtain ⟨j, hj, he⟩ := List.getElem_of_mem hm
      have := h2 j (by omega)
      rw [bang_getD s j (by omega), List.getD_eq_getElem?_getD, List.getElem?_eq_getElem hj, he] at this
      exact this rfl
    unfold parentB
    rw [parts_none hn]
    split <;> rfl
  · refine .inr ⟨k, h1, hk, fun hr => ?_⟩
    have hkl : k < s.data.toList.length := by omega
    have hb : s.data.toList[k] = 47 := by
      rw [bang_getD s k hk, List.getD_eq_getElem?_getD, List.getElem?_eq_getElem hkl] at h2
      simp only [Option.getD_some] at h2
      exact UInt8.toNat_inj.1 (by show _ = 47; omega)
    have hn : (47 : UInt8) ∉ s.data.toList.drop (k + 1) := by
      intro hm
      obtain ⟨j, hj, he⟩ := List.getElem_of_mem hm
      rw [List.length_drop] at hj
      rw [List.getElem_drop] at he
      have := h3 (k + 1 + j) (by omega) (by omega)
      rw [bang_getD s _ (by omega), List.getD_eq_getElem?_getD, List.getElem?_eq_getElem (by omega), he] at this
      exact this rfl
    have hs : s.data.toList = s.data.toList.take k ++ 47 :: s.data.toList.drop (k + 1) := by
      rw [← hb, ← List.drop_eq_getElem_cons hkl, List.take_append_drop]
    refine of_data ?_
    rw [bts_data, Lib.extract_from_zero, parentB, if_pos hr]
    have hp : parts s.data.toList = parts (s.data.toList.take k) ++ [s.data.toList.drop (k + 1)] := by
      rw [← parts_none hn, ← parts_app, ← hs]
    rw [hp, List.dropLast_concat, join_parts]

theorem belowB_pre (s o : ByteArray) : belowB s.data.toList o.data.toList = (rightB s.data.toList && rightB o.data.toList && (o ++ ⟨#[47]⟩).data.toList.isPrefixOf (s ++ ⟨#[47]⟩).data.toList) := by
  rw [belowB, ← below_slash]
  simp
/-- One by one: may it be, and does it stand behind the one ahead of it? -/
def stepOk (L : List (List UInt8)) (k : Nat) : Bool := rightB (L.getD k []) && (k == 0 || decide (cmpP (L.getD (k - 1) []) (L.getD k []) < 0))
def sortedTo (L : List (List UInt8)) (k : Nat) : Bool := (List.range k).all (stepOk L)
def sortedB (L : List (List UInt8)) : Bool := sortedTo L L.length
theorem sortedTo_next (L : List (List UInt8)) (k : Nat) : sortedTo L (k + 1) = (sortedTo L k && stepOk L k) := by simp [sortedTo, List.range_succ]
theorem sorted_not (L : List (List UInt8)) (k : Nat) (hk : k < L.length) (h : stepOk L k = false) : sortedB L = false := by
  rw [sortedB, sortedTo, List.all_eq_false]
  exact ⟨k, List.mem_range.2 hk, by rw [h]; decide⟩

set_option maxHeartbeats 4000000 in
theorem sorted_any (v : Value) (L : List (List UInt8)) (w : World) (hr : Rd w v (strsV L)) (hL : L.length < 1000000000) (hs : ∀ p ∈ L, p.length < 1000000000) :
    Calls Tryd.prog 36 #[v] w (Val (.bool (sortedB L)) w) := by
  obtain ⟨A, c, rfl⟩ := hr.form
  rw [strsV_len] at hr ⊢
  have HR := Lib.hid hr
  have HS := Lib.hid hs
  clear hr hs
  go_enter Tryd.func36, Tryd.ntmps36
  go_wp2
  go_loopw [7] (fun i W => ∃ k : Nat, i = .int .i64 k ∧ k ≤ L.length ∧ sortedTo L k = true ∧ w.grownBy W none) (fun i _ => L.length - (intOf i).toNat)
  case atStart => exact ⟨0, rfl, Nat.zero_le _, rfl, grown_refl _ _⟩
  case round =>
    obtain ⟨k, rfl, hk, hall, hg⟩ := hrel
    have HA := Lib.hid hall
    have HG := Lib.hid hg
    clear hall hg
    by_cases h : k < L.length
    · have HH := Lib.hid h
      obtain ⟨ad, u, hA, hu, hc⟩ := (HR.out.grown0 HG.out).cellAt (k := k) h
      obtain ⟨_, rfl⟩ := strs_at L hu
      clear hu
      have d0 : decide ((k : Int) < (L.length : Int)) = true := by simp; omega
      have hsz : ∀ j, (bts (L.getD j [])).size < 1000000000 := by
        intro j
        rw [bts_size]
        by_cases hj : j < L.length
        · exact HS.out _ (by simp [List.getElem?_eq_getElem hj])
        · rw [List.getD_eq_getElem?_getD, List.getElem?_eq_none (by omega)]; simp
      have HC := Lib.hid (fun w' => right_any (bts (L.getD k [])) w' (hsz k))
      have HC2 := Lib.hid (fun w' => compare_any (bts (L.getD (k - 1) [])) (bts (L.getD k [])) w' (hsz _) (hsz _))
      have HN := Lib.hid (sortedTo_next L k)
      have HO := Lib.hid (sorted_not L k h)
      have HT := Lib.hid (show stepOk L k = (rightB (L.getD k []) && (k == 0 || decide (cmpP (L.getD (k - 1) []) (L.getD k []) < 0))) from rfl)
      have hprev : k = 0 ∨ ∃ ad', A = some ad' ∧ ∀ W, wr.grownBy W none → W.cell? (ad'.add (k - 1)) = some (.string (bts (L.getD (k - 1) []))) := by
        by_cases h0 : k = 0
        · exact .inl h0
        · refine .inr ?_
          subst hA
          refine ⟨_, rfl, fun W hW => ?_⟩
          have h2 := ((HR.out.grown0 HG.out).grown0 hW).cells (by intro e; have := congrArg List.length e; rw [strsV_len, List.length_nil] at this; omega)
          obtain ⟨ad2, he, hcs⟩ := h2
          cases he
          exact hcs _ _ (strsV_at L (k - 1) (by omega))
      have HV := Lib.hid hprev
      clear hsz h hprev
      subst hA
      generalize hp : L.getD k [] = p at *
      generalize hq : L.getD (k - 1) [] = q at *
      clear hp hq
      go_wp2_with fail
      refine (HC.out _).mono ?_
      rintro e w1 ⟨rfl, hg1⟩
      have HG0 := Lib.hid hg1
      have HG1 := Lib.hid (World.grownBy.trans HG.out hg1)
      clear hg1 HC
      rw [bts_data]
      cases hr : rightB p
      · go_wp2
        go_ret
        exact ⟨by rw [HO.out (by rw [HT.out, hr]; rfl)]; rfl, HG1.out⟩
      · by_cases h0 : k = 0
        · subst h0
          go_wp2
          go_roundw
          case rel => exact ⟨1, rfl, HH.out, by rw [HN.out, HA.out, HT.out, hr]; rfl, HG1.out⟩
          case measure =>
            have := HH.out
            simp [intOf]
            omega
        · obtain ⟨ad', he, hcell⟩ := HV.out.resolve_left h0
          cases he
          have hc1 := hcell w1 HG0.out
          have c3 : ((k : Int) - 1) = ((k - 1 : Nat) : Int) := by omega
          have c4 : ((k : Int) - 1).toNat = k - 1 := by omega
          have d1 : decide ((0 : Int) < (k : Int)) = true := by simp; omega
          clear hcell hc
          go_wp2_with fail
          refine (HC2.out _).mono ?_
          rintro e w2 ⟨rfl, hg2⟩
          have HG2 := Lib.hid (World.grownBy.trans HG1.out hg2)
          clear hg2 HC2
          rw [bts_data, bts_data]
          have h0' : (k == 0) = false := beq_eq_false_iff_ne.2 h0
          generalize cmpP q p = z at *
          by_cases hz : z < 0
          · have d2 : decide (0 ≤ z) = false := by simp; omega
            have HZ := Lib.hid (show stepOk L k = true by rw [HT.out, hr, h0']; simp [hz])
            clear h0 h0' c3 c4 hz
            go_wp2
            go_roundw
            case rel => exact ⟨k + 1, by go_num, by have := HH.out; omega, by rw [HN.out, HA.out, HZ.out]; rfl, HG2.out⟩
            case measure =>
              have := HH.out
              simp [intOf]
              omega
          · have d2 : decide (0 ≤ z) = true := by simp; omega
            have HZ := Lib.hid (show stepOk L k = false by rw [HT.out, hr, h0']; simp [hz])
            clear h0 h0' c3 c4 hz
            go_wp2
            go_ret
            exact ⟨by rw [HO.out HZ.out]; rfl, HG2.out⟩
    · have d0 : decide ((k : Int) < (L.length : Int)) = false := by simp; omega
      go_wp2
      go_ret
      refine ⟨?_, HG.out⟩
      have := HA.out
      rw [show k = L.length by omega] at this
      rw [sortedB, this]
      rfl
end Go.Proofs.YtiakkfcjdmecdaaDoor
