/-
  What slices.Grow (of nil) and slices.Concat do at []byte, over this program.
-/
import Derived.Test.YtjcbdplbekecjaaRows
import Derived.Test.YtjcbdplbekecjaaAppBytes
namespace Go.Proofs.Ytjcbdplbekecjaa
open Go.RowKit

/-- What a byte's type is. -/
theorem info5 : ∃ i, Try.prog.info? 5 = some i ∧ i.zero = some (.int .u8 0) ∧ i.size = 1 ∧ i.bytes = 1 := by
  have h : (Try.prog.info? 5).map (fun i => (i.zero, i.size, i.bytes)) = some (some (.int .u8 0), 1, 1) := by kernel_rfl
  obtain ⟨i, hi, he⟩ := Option.map_eq_some_iff.1 h
  simp only [Prod.mk.injEq] at he
  exact ⟨i, hi, he.1, he.2.1, he.2.2⟩
/-- A new row of the call's own, empty. -/
def Fresh (w : World) (e : Ending) (w' : World) : Prop :=
  ∃ v, e = .returned v ∧ w'.ownsRow w.heap.size 5 1 v 0 [] ∧ w.grownBy w' none
set_option maxHeartbeats 400000 in
theorem grow_nil (n : Nat) (w : World) (hn : n ≤ 140737488355328) :
    Calls Try.prog 27 #[.slice none 0 0, .int .i64 n] w (Fresh w) := by
  obtain ⟨i, hi, hz, hs, hb⟩ := info5
  by_cases h0 : n = 0
  · subst h0
    go_enter Try.func27, Try.ntmps27
    go_wp2
    go_ret
    exact ⟨_, rfl, World.ownsRow_nil _ _ _ _, grown_refl _ _⟩
  · have hpos : 0 < n := by omega
    have hr := fun ty => Lib.run_append_nil_zeros (P := Try.prog) w 24 3 ty 5 i (.int .u8 0) .i64 .i64 Try.underlying24 Try.underlying3 hi hz n hpos (by omega) (by omega) (by rw [hb]; omega)
    have hge := grownCap_ge w n 0 5
    have hle := grownCap_le_maxLen w n 0 5 (by simp only [maxLen]; omega)
    generalize grownCap w n 0 5 = G at hr hge hle
    have HB := Lib.hid hb
    have HI := Lib.hid hi
    have HZ := Lib.hid hz
    have HS := Lib.hid hs
    clear hb hi hz hs h0
    have hG : (G : Int) ≤ 9223372036854775807 := by simp only [maxLen] at hle; omega
    go_enter Try.func27, Try.ntmps27
    go_wp2_with (at_builtin; refine Lib.wpList_append_run _ rfl _ _ _ _ rfl _ _ rfl rfl _ _ (hr _) ?_)
    go_ret
    refine ⟨_, rfl, ?_, ?_⟩
    · refine World.ownsRow_made _ _ _ (Nat.le_refl _) hle ?_
      simp [size_zeroCells]
      have : (Value.int IntKind.u8 0).cells.size = 1 := rfl
      omega
    · exact grown_alloc (grown_drew (grown_refl _ _)) _
/-- How many bytes the first k lists have. -/
def lensTo (ls : List (List UInt8)) (k : Nat) : Nat := (ls.take k).flatten.length
theorem lensTo_succ (ls : List (List UInt8)) (k : Nat) (l : List UInt8) (h : ls[k]? = some l) : lensTo ls (k + 1) = lensTo ls k + l.length := by
  obtain ⟨hk, rfl⟩ := List.getElem?_eq_some_iff.1 h
  unfold lensTo
  rw [List.take_succ_eq_append_getElem hk]
  simp only [List.flatten_append, List.flatten_cons, List.flatten_nil, List.append_nil, List.length_append]
theorem lensTo_le (ls : List (List UInt8)) (k : Nat) : lensTo ls k ≤ ls.flatten.length := by
  have h : ls.flatten = (ls.take k).flatten ++ (ls.drop k).flatten := by rw [← List.flatten_append, List.take_append_drop]
  rw [h, List.length_append]
  exact Nat.le_add_right _ _
theorem flatTo_succ (ls : List (List UInt8)) (k : Nat) (l : List UInt8) (h : ls[k]? = some l) : (ls.take (k + 1)).flatten = (ls.take k).flatten ++ l := by
  obtain ⟨hk, rfl⟩ := List.getElem?_eq_some_iff.1 h
  rw [List.take_succ_eq_append_getElem hk]
  simp only [List.flatten_append, List.flatten_cons, List.flatten_nil, List.append_nil]
set_option maxHeartbeats 1000000 in
theorem concat_own (g : Nat) (vs : List Value) (ls : List (List UInt8)) (w : World) (hg : w.heap[g]? = some (.cells vs.toArray 24 (0, 0)))
    (hlen : vs.length = ls.length) (hr : ∀ (k : Nat) (v : Value) (l : List UInt8), vs[k]? = some v → ls[k]? = some l → Rd w v (bytesV l)) (ht : ls.flatten.length ≤ 70368744177664) (hk : vs.length ≤ 100) :
    Calls Try.prog 15 #[.slice (some ⟨g, 0, none⟩) vs.length vs.length] w (OutO w ls.flatten) := by
  have hcell : ∀ W : World, w.grownBy W none → ∀ k, k < vs.length → ∃ v l A c, vs[k]? = some v ∧ ls[k]? = some l ∧ v = .slice A l.length c ∧ Rd W v (bytesV l) ∧ W.cell? ⟨g, k, none⟩ = some v := by
    intro W hW k hk
    obtain ⟨v, hv⟩ : ∃ v, vs[k]? = some v := ⟨vs[k], List.getElem?_eq_getElem hk⟩
    obtain ⟨l, hl⟩ : ∃ l, ls[k]? = some l := ⟨ls[k]'(by omega), List.getElem?_eq_getElem (by omega)⟩
    have hR := (hr k v l hv hl).grown0 hW
    obtain ⟨A, c, hA, _⟩ := hR
    refine ⟨v, l, A, c, hv, hl, by rw [hA, bytesV_len], (hr k v l hv hl).grown0 hW, ?_⟩
    have hlt : g < w.heap.size := by
      rcases Nat.lt_or_ge g w.heap.size with h | h
      · exact h
      · rw [Array.getElem?_eq_none h] at hg; cases hg
    rw [cell_of_row W g k _ _ _ ((hW.block g hlt (by simp)).trans hg)]
    simpa using hv
  have HC := Lib.hid hcell
  have HG := Lib.hid hg
  have HR := Lib.hid hr
  have HL := Lib.hid hlen
  clear hcell hg hr hlen
  generalize hn : vs.length = n at *
  have HN := Lib.hid hn
  clear hn
  go_enter Try.func15, Try.ntmps15
  go_wp2
  go_loop [3, 11] (fun a b => ∃ k : Nat, k ≤ n ∧ b = .int .i64 k ∧ a = .int .i64 (lensTo ls k)) (fun _ b => n - (intOf b).toNat)
  case atStart => exact ⟨0, Nat.zero_le _, rfl, rfl⟩
  case round =>
    obtain ⟨k, hkn, rfl, rfl⟩ := hrel
    by_cases hlt : k < n
    · obtain ⟨v, l, A, c, hv, hl, rfl, hR, hcl⟩ := HC.out w (grown_refl _ _) k hlt
      have hs := Lib.hid (lensTo_succ ls k l hl)
      have hle := lensTo_le ls (k + 1)
      have hle2 : lensTo ls k + l.length ≤ 70368744177664 := by have := hs.out; omega
      clear hv hl hR
      go_wp2
      go_round
      case rel => exact ⟨k + 1, by omega, by go_num, by rw [hs.out]; go_num⟩
      case measure => simp [intOf]; omega
    · have hkn' : k = n := by omega
      have hnl : n = ls.length := HL.out
      have hT : Hid (lensTo ls k = ls.flatten.length) := by
        show lensTo ls k = _
        rw [hkn', hnl, lensTo, List.take_length]
      have hTle : lensTo ls k ≤ 70368744177664 := by rw [hT.out]; exact ht
      have HNL := Lib.hid hnl
      clear hnl hkn'
      go_wp2_with (go_at_call 27; refine (grow_nil _ _ (by omega)).mono ?_; rintro e w1 ⟨v0, rfl, hown0, hgr0⟩)
      go_loopw [6, 27] (fun s b W => ∃ j : Nat, j ≤ n ∧ b = .int .i64 j ∧ W.ownsRow w.heap.size 5 1 s (lensTo ls j) (bytesV (ls.take j).flatten) ∧ w.grownBy W none) (fun _ b _ => n - (intOf b).toNat)
      case atStart => exact ⟨0, Nat.zero_le _, rfl, by simpa [lensTo, bytesV] using hown0, hgr0⟩
      case round =>
        clear hown0 hgr0
        obtain ⟨j, hjn, rfl, hown, hgr⟩ := hrel
        by_cases hjlt : j < n
        · obtain ⟨v, l, A, c, hv, hl, rfl, hR, hcl⟩ := HC.out _ hgr j hjlt
          have hs := Lib.hid (lensTo_succ ls j l hl)
          have hf := Lib.hid (flatTo_succ ls j l hl)
          have hle := lensTo_le ls (j + 1)
          have hle2 : lensTo ls j + l.length ≤ 70368744177664 := by have := hs.out; omega
          obtain ⟨i, hi, hz, hs1, hb⟩ := info5
          have HI := Lib.hid (And.intro hi (And.intro hz (And.intro hs1 hb)))
          clear hb hi hz hs1 hv hl
          go_wp2_with (at_builtin; refine wpList_append_rd _ rfl _ _ _ rfl w.heap.size 5 i (.int .u8 0) 1 Try.underlying24 HI.out.1 HI.out.2.1 HI.out.2.2.1 HI.out.2.2.2 rfl _ (lensTo ls j) _ rfl hown _ (bytesV l) rfl hR (bytesV_one l) ?_ ?_ ?_ ?_)
          · rw [bytesV_len]; omega
          · rw [bytesV_len]; omega
          · exact hgr.size
          · intro v' w' ho hg hat
            go_wp2
            go_roundw
            case rel => exact ⟨j + 1, by omega, by go_num, by rw [hs.out, hf.out, bytesV_app, ← bytesV_len l]; exact ho, grown_new hgr hg fun b hb => (hown.lt b hb).1⟩
            case measure => simp [intOf]; omega
        · have hjn' : j = n := by omega
          have hfl : Hid ((ls.take j).flatten = ls.flatten) := by
            show _ = _
            rw [hjn', HNL.out, List.take_length]
          clear hjn'
          go_wp2
          go_ret
          exact ⟨_, rfl, by rw [← hfl.out]; exact hown, hgr⟩
theorem concat_any (g : Nat) (vs : List Value) (ls : List (List UInt8)) (w : World) (hg : w.heap[g]? = some (.cells vs.toArray 24 (0, 0)))
    (hlen : vs.length = ls.length) (hr : ∀ (k : Nat) (v : Value) (l : List UInt8), vs[k]? = some v → ls[k]? = some l → Rd w v (bytesV l)) (ht : ls.flatten.length ≤ 70368744177664) (hk : vs.length ≤ 100) :
    Calls Try.prog 15 #[.slice (some ⟨g, 0, none⟩) vs.length vs.length] w (Out w ls.flatten) :=
  (concat_own g vs ls w hg hlen hr ht hk).mono fun _ _ h => h.out
end Go.Proofs.Ytjcbdplbekecjaa
