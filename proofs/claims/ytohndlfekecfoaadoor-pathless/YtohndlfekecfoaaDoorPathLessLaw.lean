/-
  The walk of PathLess.
-/
import Derived.Test.YtohndlfekecfoaaDoorPathSortedLaw
namespace Go.Proofs.YtohndlfekecfoaaDoor
set_option maxRecDepth 1000000
open Go.RowKit

theorem sorted_pairs (L : List (List UInt8)) : sortedB L = true ↔ (∀ p ∈ L, rightB p = true) ∧ L.Pairwise (fun a b => cmpP a b < 0) := by
  have hk : ∀ k, k ≤ L.length → (sortedTo L k = true ↔ (∀ p ∈ L.take k, rightB p = true) ∧ (L.take k).Pairwise (fun a b => cmpP a b < 0)) := by
    intro k
    induction k with
    | zero => simp [sortedTo]
    | succ k ih =>
      intro hk
      have hkl : k < L.length := by omega
      rw [sortedTo_next, Bool.and_eq_true, ih (by omega), take_next L k hkl, List.pairwise_append, stepOk, Bool.and_eq_true, Bool.or_eq_true, decide_eq_true_eq, beq_iff_eq]
      constructor
      · rintro ⟨⟨h1, h2⟩, h3, h4⟩
        refine ⟨fun p hp => ?_, h2, List.pairwise_singleton _ _, fun p hp q hq => ?_⟩
        · rcases List.mem_append.1 hp with hp | hp
          · exact h1 p hp
          · rw [List.mem_singleton.1 hp]; exact h3
        · rw [List.mem_singleton.1 hq]
          obtain ⟨j, hj, he⟩ := List.getElem_of_mem hp
          rw [List.length_take] at hj
          rw [List.getElem_take] at he
          have h0 : k ≠ 0 := by omega
          have h5 := h4.resolve_left h0
          by_cases e : j = k - 1
          · subst e
            rw [← he]
            rw [List.getD_eq_getElem?_getD, List.getElem?_eq_getElem (by omega)] at h5
            exact h5
          · have h6 := List.pairwise_iff_getElem.1 h2 j (k - 1) (by rw [List.length_take]; omega) (by rw [List.length_take]; omega) (by omega)
            rw [List.getElem_take, List.getElem_take, he] at h6
            rw [List.getD_eq_getElem?_getD, List.getElem?_eq_getElem (show k - 1 < L.length by omega)] at h5
            exact ordP.trans _ _ _ h6 h5
      · rintro ⟨h1, h2, _, h4⟩
        refine ⟨⟨fun p hp => h1 p (List.mem_append.2 (.inl hp)), h2⟩, h1 _ (by simp), ?_⟩
        by_cases h0 : k = 0
        · exact .inl h0
        · refine .inr (h4 _ ?_ _ (by simp))
          rw [List.getD_eq_getElem?_getD, List.getElem?_eq_getElem (show k - 1 < L.length by omega)]
          exact List.mem_iff_getElem.2 ⟨k - 1, by rw [List.length_take]; omega, by rw [List.getElem_take]; rfl⟩
  have := hk L.length (Nat.le_refl _)
  rwa [List.take_length] at this
theorem sorted_some {S L : List (List UInt8)} (h : S.Sublist L) (hL : sortedB L = true) : sortedB S = true := by
  rw [sorted_pairs] at hL ⊢
  exact ⟨fun p hp => hL.1 p (h.subset hp), hL.2.sublist h⟩
theorem own_none (w : World) (base : Nat) : w.ownsRow base 9 1 (.slice none 0 0) 0 (strsV []) := ⟨rfl, .inl ⟨rfl, rfl⟩⟩
theorem own_any {w : World} {base : Nat} {v : Value} {n : Nat} {xs : List Value} (h : w.ownsRow base 9 1 v n xs) : ∃ A c, v = .slice A n c ∧ ∀ b, v.ownBlock = some b → base ≤ b := by
  rcases h.2 with ⟨rfl, rfl⟩ | ⟨g, cap, cur, rfl, hb, _⟩
  · exact ⟨none, 0, rfl, fun b hb => by cases hb⟩
  · exact ⟨_, cap, rfl, fun b hb => by cases hb; assumption⟩

set_option maxHeartbeats 8000000 in
theorem pathLess_walk (A : Option Addr) (n c : Nat) (l : List ByteArray) (a1 : Int) (w : World) (hr : Rd w (.slice A n c) (l.map fun z : ByteArray => Value.string z)) :
    Calls Tryd.prog 9 #[.slice A n c, .int .u64 a1] w (Awake w) := by
  rw [strsV_of] at hr
  generalize (l.map fun z => z.data.toList) = L at *
  have hl := hr.len.1
  rw [strsV_len] at hl
  by_cases hn : n ≤ 40
  · have d0 : decide ((40 : Int) < (n : Int)) = false := decide_eq_false (by omega)
    subst hl
    have HR := Lib.hid hr
    have HN40 := Lib.hid hn
    clear hr
    go_enter Tryd.func9, Tryd.ntmps9
    go_wp2
    go_loopw [5, 14] (fun v i W => ∃ (k : Nat) (S : List (List UInt8)), i = .int .i64 k ∧ k ≤ L.length ∧ W.ownsRow w.heap.size 9 1 v S.length (strsV S) ∧ S.Sublist (L.take k) ∧ (∀ j, j < k → (L.getD j []).length ≤ 100) ∧ w.grownBy W none) (fun _ i _ => L.length - (intOf i).toNat)
    case atStart => exact ⟨0, [], rfl, Nat.zero_le _, own_none _ _, by simp, fun j hj => absurd hj (Nat.not_lt_zero j), grown_refl _ _⟩
    case round =>
      obtain ⟨k, S, rfl, hk, ho, hsub, hall, hg⟩ := hrel
      have HA := Lib.hid hall
      have G0 := Lib.hid hg
      have HO := Lib.hid ho
      have HSB := Lib.hid hsub
      obtain ⟨B, cB, rfl, hB⟩ := own_any ho
      have HB := Lib.hid hB
      have hslen : S.length ≤ k := by have := hsub.length_le; rw [List.length_take] at this; omega
      clear hall hg ho hsub hB
      by_cases h : k < L.length
      · have HK := Lib.hid h
        obtain ⟨ad, u, rfl, hu, hc⟩ := (HR.out.grown0 G0.out).cellAt (k := k) h
        obtain ⟨_, rfl⟩ := strs_at L hu
        clear hu
        have d1 : decide ((k : Int) < (L.length : Int)) = true := by simp; omega
        have HTK := Lib.hid (take_next L k h)
        have HLN := Lib.hid (fun h2 => le_next (m := 100) HA.out (k := k) h2)
        generalize L.getD k [] = p at *
        by_cases hp : p.length ≤ 100
        · have hps : (bts p).size ≤ 100 := by rw [bts_size]; exact hp
          have d2 : decide ((100 : Int) < ((bts p).size : Int)) = false := decide_eq_false (by omega)
          have HLE := Lib.hid (HLN.out hp)
          have c1 : (0 : Int) ≤ (k : Int) := by omega
          clear hp hps HLN
          go_wp2_with (at_builtin; refine wpList_append_strs _ rfl _ _ rfl w.heap.size _ S.length _ rfl (HO.out.alloc _) _ [p] rfl ?_ ?_ ?_ ?_)
          · exact Rd.one _ _ _
          · have := HN40.out; simp; omega
          · have := G0.out.size; simp; omega
          · intro v' w' ho hg hat
            have hg2 : w.grownBy w' none := grown_new (grown_alloc G0.out _) hg (fun b hb => HB.out b hb)
            have HO' := Lib.hid ho
            have HG' := Lib.hid hg2
            clear ho hg hat hg2
            go_wp2
            go_roundw
            case rel => exact ⟨k + 1, S ++ [p], by go_num, HK.out, by rw [List.length_append, strsV_app]; exact HO'.out, by rw [HTK.out]; exact HSB.out.append_right _, HLE.out, HG'.out⟩
            case measure =>
              have := HK.out
              simp [intOf]
              omega
          · go_roundw
            case rel => exact ⟨k + 1, S, by go_num, HK.out, HO.out, by rw [HTK.out]; exact HSB.out.trans (List.sublist_append_left _ _), HLE.out, G0.out⟩
            case measure =>
              have := HK.out
              simp [intOf]
              omega
        · have hps : ¬ (bts p).size ≤ 100 := by rw [bts_size]; exact hp
          have d2 : decide ((100 : Int) < ((bts p).size : Int)) = true := decide_eq_true (by omega)
          clear hp hps HLN
          go_wp2_with fail
          refine (awake_any _).mono ?_
          rintro e w1 ⟨rfl, hg⟩
          have G1 := Lib.hid (World.grownBy.trans G0.out hg)
          clear hg
          go_wp2
          go_ret
          exact ⟨rfl, G1.out⟩
      · have d1 : decide ((k : Int) < (L.length : Int)) = false := by simp; omega
        have hkl : k = L.length := by omega
        have HSUB := Lib.hid (show S.Sublist L by have := HSB.out; rwa [hkl, List.take_length] at this)
        have HALL := Lib.hid (getD_le (L := L) HA.out (by omega))
        have HR0 := Lib.hid (HR.out.grown0 G0.out)
        have H1 := Lib.hid (fun w' (h : Rd w' (.slice A L.length c) (strsV L)) => sorted_any _ L w' h (by omega) (fun p hp => by have := HALL.out p hp; omega))
        have H2 := Lib.hid (fun w' (h : Rd w' (.slice B S.length cB) (strsV S)) => sorted_any _ S w' h (by omega) (fun p hp => by have := HALL.out p (HSUB.out.subset hp); omega))
        have HSS := Lib.hid (sorted_some HSUB.out)
        go_wp2_with fail
        refine (H1.out _ HR0.out).mono ?_
        rintro e w1 ⟨rfl, hg⟩
        have HR1 := Lib.hid ((Rd.of_own HO.out).grown0 hg)
        have G1 := Lib.hid (World.grownBy.trans G0.out hg)
        clear hg
        cases hb : sortedB L
        · skip
          go_wp2_with fail
          refine (awake_any _).mono ?_
          rintro e w2 ⟨rfl, hg⟩
          have G2 := Lib.hid (World.grownBy.trans G1.out hg)
          clear hg
          go_wp2
          go_ret
          exact ⟨rfl, G2.out⟩
        · go_wp2_with fail
          refine (H2.out _ HR1.out).mono ?_
          rintro e w2 ⟨rfl, hg⟩
          have G2 := Lib.hid (World.grownBy.trans G1.out hg)
          clear hg
          rw [HSS.out hb]
          go_wp2_with fail
          refine (awake_any _).mono ?_
          rintro e w3 ⟨rfl, hg⟩
          have G3 := Lib.hid (World.grownBy.trans G2.out hg)
          clear hg
          go_wp2
          go_ret
          exact ⟨rfl, G3.out⟩
  · have d0 : decide ((40 : Int) < (n : Int)) = true := decide_eq_true (by omega)
    have HW := Lib.hid (awake_any w)
    go_enter Tryd.func9, Tryd.ntmps9
    go_wp2_with fail
    refine HW.out.mono ?_
    rintro e w1 ⟨rfl, hg⟩
    have HG := Lib.hid hg
    clear hg HW
    go_wp2
    go_ret
    exact ⟨rfl, HG.out⟩
end Go.Proofs.YtohndlfekecfoaaDoor
