/-
  The library's Cut, Split, LastIndex and HasPrefix at a slash, over this program, in the words of PtM.
-/
import Derived.Test.YtohndlfekecfoaaDoorPtM
import Derived.Test.YtohndlfekecfoaaDoorPtShelf
import Derived.Test.YtohndlfekecfoaaDoorCommon
import Derived.Lib.IndexBytes
import Derived.Lib.CutLaws
namespace Go.Proofs.YtohndlfekecfoaaDoor
set_option maxRecDepth 1000000
open Go.RowKit

/-- A text of the mathematics as a string; several as cells. -/
def bts (l : List UInt8) : ByteArray := ⟨l.toArray⟩
theorem bts_data (l : List UInt8) : (bts l).data.toList = l := rfl
theorem bts_of (s : ByteArray) : bts s.data.toList = s := by cases s; rfl
theorem bts_size (l : List UInt8) : (bts l).size = l.length := by show l.toArray.size = _; simp
theorem size_len (s : ByteArray) : s.size = s.data.toList.length := by cases s; rfl
theorem bts_inj {a b : List UInt8} (h : bts a = bts b) : a = b := by have := congrArg (fun s : ByteArray => s.data.toList) h; exact this
theorem of_data {a b : ByteArray} (h : a.data.toList = b.data.toList) : a = b := by rw [← bts_of a, ← bts_of b, h]
def strsV (l : List (List UInt8)) : List Value := l.map fun p => .string (bts p)
theorem strsV_len (l : List (List UInt8)) : (strsV l).length = l.length := by simp [strsV]
theorem strsV_at (l : List (List UInt8)) (k : Nat) (h : k < l.length) : (strsV l)[k]? = some (.string (bts (l.getD k []))) := by simp [strsV, List.getElem?_eq_getElem h]
theorem strsV_of (l : List ByteArray) : l.map (fun z : ByteArray => Value.string z) = strsV (l.map fun z => z.data.toList) := by simp [strsV, bts_of]
/-- What a call answers that makes a new row of texts. -/
def RowOut (w : World) (l : List (List UInt8)) (e : Ending) (w' : World) : Prop :=
  ∃ v, e = .returned v ∧ Rd w' v (strsV l) ∧ w.grownBy w' none ∧ ∀ b, v.ownBlock = some b → w.heap.size ≤ b ∧ b < w'.heap.size

theorem slash_data : (⟨#[47]⟩ : ByteArray).data.toList = [47] := rfl
theorem pIndex (s : ByteArray) (w : World) : Calls Tryd.prog 43 #[.string s, .string ⟨#[47]⟩] w fun e w' => e = .returned (.int .i64 (Lib.index s.data.toList [47])) ∧ w' = w := by
  rw [Lib.index_one]
  exact sh_lIndex s 47 w
theorem cut_of (s : ByteArray) : ∃ i : Int, Lib.index s.data.toList [47] = i ∧
    ((i = -1 ∧ parts s.data.toList = [s.data.toList]) ∨ ∃ k : Nat, i = k ∧ k < s.size ∧ parts s.data.toList = (s.extract 0 k).data.toList :: parts (s.extract (k + 1) s.size).data.toList) := by
  refine ⟨_, rfl, ?_⟩
  rcases index_parts s.data.toList with ⟨h1, _, h2⟩ | ⟨k, h1, h2, h3⟩
  · exact .inl ⟨h1, h2⟩
  · refine .inr ⟨k, h1, by rw [size_len]; exact h2, ?_⟩
    rw [h3, Lib.extract_from_zero, Lib.extract_to_end]

/-- What Cut answers of a text: what stands ahead of its first slash, and behind. -/
def CutOut (s : ByteArray) (w : World) (e : Ending) (w' : World) : Prop :=
  ∃ x y b, e = .returned (.tuple #[.string x, .string y, .bool b]) ∧ w.grownBy w' none ∧
    ((b = true ∧ parts s.data.toList = x.data.toList :: parts y.data.toList ∧ y.size < s.size) ∨ (b = false ∧ parts s.data.toList = [x.data.toList]))
set_option maxHeartbeats 2000000 in
theorem lcut_any (s : ByteArray) (w : World) (hs : s.size < 1000000000) : Calls Tryd.prog 36 #[.string s, .string ⟨#[47]⟩] w (CutOut s w) := by
  obtain ⟨i, hi, h⟩ := cut_of s
  have HI := Lib.hid (hi ▸ pIndex s w)
  clear hi
  rcases h with ⟨rfl, hp⟩ | ⟨k, rfl, hk, hp⟩
  · have HP := Lib.hid hp
    clear hp
    go_enter Tryd.func36, Tryd.ntmps36
    go_wp2_with (go_at_call 43; refine HI.out.mono ?_; rintro e w' ⟨rfl, rfl⟩)
    go_ret3
    exact ⟨_, _, _, rfl, grown_refl _ _, .inr ⟨rfl, HP.out⟩⟩
  · have HP := Lib.hid hp
    clear hp
    have c1 : (0 : Int) ≤ (k : Int) := by omega
    have c2 : (k : Int) ≤ (s.size : Int) := by omega
    have c3 : (0 : Int) ≤ (k : Int) + 1 := by omega
    have c4 : (k : Int) + 1 ≤ (s.size : Int) := by omega
    go_enter Tryd.func36, Tryd.ntmps36
    go_wp2_with (go_at_call 43; refine HI.out.mono ?_; rintro e w' ⟨rfl, rfl⟩)
    go_region
    go_wp2
    go_ret3
    refine ⟨_, _, _, rfl, grown_drew (grown_refl _ _), .inl ⟨rfl, HP.out, ?_⟩⟩
    simp
    omega
theorem cut_any (s : ByteArray) (w : World) (hs : s.size < 1000000000) : Calls Tryd.prog 28 #[.string s, .string ⟨#[47]⟩] w (CutOut s w) := by
  have H := Lib.hid (fun w' => lcut_any s w' hs)
  go_enter Tryd.func28, Tryd.ntmps28
  go_wp2_with fail
  refine (H.out _).mono ?_
  rintro e w1 ⟨x, y, b, rfl, hg, h⟩
  have HG := Lib.hid hg
  have H2 := Lib.hid h
  clear hg h H
  go_wp2
  go_ret3
  exact ⟨_, _, _, rfl, HG.out, H2.out⟩

theorem split_len (s : ByteArray) : Lib.countB s ⟨#[47]⟩ + 1 = (parts s.data.toList).length := by
  rw [parts_len]
  show Lib.count s.data.toList [47] + 1 = _
  rw [Lib.count_one]
theorem split_row (s : ByteArray) : (Lib.splitB ⟨#[47]⟩ 0 (Lib.countB s ⟨#[47]⟩) s).map Value.string = strsV (parts s.data.toList) := by
  have h := Lib.splitB_data ⟨#[47]⟩ 0 (Lib.countB s ⟨#[47]⟩) s
  have h2 : Lib.splitK (⟨#[47]⟩ : ByteArray).data.toList 0 (Lib.countB s ⟨#[47]⟩) s.data.toList = parts s.data.toList := splitK_parts _ _ (split_len s).symm
  rw [h2] at h
  rw [← h]
  simp [strsV, bts_of]
set_option maxHeartbeats 1000000 in
theorem split_any (s : ByteArray) (w : World) (hs : s.size < 1000000000) : Calls Tryd.prog 22 #[.string s, .string ⟨#[47]⟩] w (RowOut w (parts s.data.toList)) := by
  have hlen := split_len s
  have hle : (parts s.data.toList).length ≤ s.size + 1 := by rw [parts_len, size_len]; have := List.count_le_length (a := (47 : UInt8)) (l := s.data.toList); omega
  have hI : ∀ (x : ByteArray) (c : Array Value), x.size ≤ s.size → Calls Tryd.prog 41 #[.string x, .string ⟨#[47]⟩] (w.alloc (.cells c 9)) fun e w' => e = .returned (.int .i64 (Lib.indexB x ⟨#[47]⟩)) ∧ w' = w.alloc (.cells c 9) := by
    intro x c _
    show Calls _ _ _ _ fun e w' => e = .returned (.int .i64 (Lib.index x.data.toList [47])) ∧ _
    rw [Lib.index_one]
    exact sh_Index x 47 _
  have hC : Calls Tryd.prog 40 #[.string s, .string ⟨#[47]⟩] w fun e w' => e = .returned (.int .i64 (Lib.countB s ⟨#[47]⟩)) ∧ w' = w := by
    show Calls _ _ _ _ fun e w' => e = .returned (.int .i64 ((Lib.count s.data.toList [47] : Nat) : Int)) ∧ _
    rw [Lib.count_one]
    exact sh_Count s 47 w
  have c := Any.strings_genSplit_core lays221 (by kernel_rfl) s ⟨#[47]⟩ 0 (-1) (Lib.countB s ⟨#[47]⟩ + 1) w (by omega) (by decide) (Nat.zero_le _) hI hC (by decide) (by decide) (by rw [if_pos (by decide)]; omega)
  have hall := Lib.splitB_all ⟨#[47]⟩ (by decide) 0 _ s rfl
  rw [Nat.add_sub_cancel, hall] at c
  have e2 : Lib.cellsOf (Lib.splitB ⟨#[47]⟩ 0 (Lib.countB s ⟨#[47]⟩) s) (Lib.countB s ⟨#[47]⟩ + 1) = (strsV (parts s.data.toList)).toArray := by rw [← split_row, ← hall]; exact Lib.cellsOf_full _
  rw [e2, hlen, ← strsV_len (parts s.data.toList)] at c
  have hF : Rd (w.alloc (.cells (strsV (parts s.data.toList)).toArray 9)) (.slice (some ⟨w.heap.size, 0, none⟩) (strsV (parts s.data.toList)).length (strsV (parts s.data.toList)).length) (strsV (parts s.data.toList)) :=
    Rd.new w _ 9 (0, 0) _ (Nat.le_refl _) (by rw [strsV_len]; simp only [maxLen]; omega)
  have hF2 : ∃ v, v = .slice (some ⟨w.heap.size, 0, none⟩) (strsV (parts s.data.toList)).length (strsV (parts s.data.toList)).length ∧ Rd (w.alloc (.cells (strsV (parts s.data.toList)).toArray 9)) v (strsV (parts s.data.toList)) ∧ w.grownBy (w.alloc (.cells (strsV (parts s.data.toList)).toArray 9)) none ∧ ∀ b, v.ownBlock = some b → w.heap.size ≤ b ∧ b < (w.alloc (.cells (strsV (parts s.data.toList)).toArray 9)).heap.size :=
    ⟨_, rfl, hF, grown_alloc (grown_refl _ _) _, fun b hb => by cases hb; simp⟩
  obtain ⟨v, hv, hF3⟩ := hF2
  have c' : Calls Tryd.prog 32 #[.string s, .string ⟨#[47]⟩, .int .i64 0, .int .i64 (-1)] w fun e w' => e = .returned v ∧ w' = w.alloc (.cells (strsV (parts s.data.toList)).toArray 9) := by rw [hv]; exact c
  have H := Lib.hid c'
  have HF := Lib.hid hF3
  clear hI hC c c' hall e2 hlen hle hF hF3 hv
  go_enter Tryd.func22, Tryd.ntmps22
  go_wp2_with fail
  refine H.out.mono ?_
  rintro e w1 ⟨rfl, hw⟩
  have HW := Lib.hid hw
  clear H hw
  go_wp2
  go_ret
  exact ⟨v, rfl, by rw [HW.out]; exact HF.out⟩

theorem hasPrefix_any (s p : ByteArray) (w : World) : Calls Tryd.prog 31 #[.string s, .string p] w (Val (.bool (p.data.toList.isPrefixOf s.data.toList)) w) :=
  (sh_HasPrefix s p w).mono fun _ _ ⟨he, hw⟩ => ⟨he, by rw [hw]; exact grown_refl _ _⟩
end Go.Proofs.YtohndlfekecfoaaDoor
