/-
  path.Right and path.Parts over this program.
-/
import Derived.Test.YtohndlfekecfoaaDoorPtPart
namespace Go.Proofs.YtohndlfekecfoaaDoor
set_option maxRecDepth 1000000
open Go.RowKit

theorem part_le (s : List UInt8) : ∀ p ∈ parts s, p.length ≤ s.length := by
  induction s with
  | nil => simp [parts]
  | cons c r ih =>
    by_cases hc : c = 47
    · subst hc; rw [parts_slash]; intro p hp
      rcases List.mem_cons.1 hp with rfl | hp
      · simp
      · have := ih p hp; simp only [List.length_cons]; omega
    · obtain ⟨p, q, h1, h2⟩ := parts_cons c hc r
      rw [h1] at ih
      rw [h2]
      intro x hx
      rcases List.mem_cons.1 hx with rfl | hx
      · have := ih p (by simp); simp only [List.length_cons]; omega
      · have := ih x (by simp [hx]); simp only [List.length_cons]; omega

theorem none_any (s : ByteArray) (w : World) (hs : s.size < 1000000000) :
    Calls Tryd.prog 24 #[.string s] w (Val (.bool (!partB s.data.toList)) w) := by
  have H := Lib.hid (fun w' => rightPart_any s w' hs)
  go_enter Tryd.func24, Tryd.ntmps24
  go_wp2_with fail
  refine (H.out _).mono ?_
  rintro e w1 ⟨rfl, hg⟩
  have HG := Lib.hid hg
  clear hg H
  go_wp2
  go_ret
  exact ⟨rfl, HG.out⟩

theorem strs_at (l : List (List UInt8)) {k : Nat} {u : Value} (hu : (strsV l)[k]? = some u) : k < l.length ∧ u = .string (bts (l.getD k [])) := by
  have hk : k < l.length := by
    by_cases h : k < l.length
    · exact h
    · rw [List.getElem?_eq_none (by rw [strsV_len]; omega)] at hu; cases hu
  rw [strsV_at l k hk] at hu
  exact ⟨hk, (Option.some.inj hu).symm⟩

theorem all_takeL (l : List (List UInt8)) (f : List UInt8 → Bool) (k : Nat) (h : k < l.length) (ha : (l.take k).all f = true) : (l.take (k + 1)).all f = f (l.getD k []) := by
  rw [List.take_add_one, List.getElem?_eq_getElem h, List.all_append, ha]
  simp [List.getElem?_eq_getElem h]
theorem all_notL (l : List (List UInt8)) (f : List UInt8 → Bool) (k : Nat) (h : k < l.length) (ha : f (l.getD k []) = false) : l.all f = false := by
  rw [List.all_eq_false]
  exact ⟨l.getD k [], by simp [List.getElem?_eq_getElem h], by rw [ha]; decide⟩

set_option maxHeartbeats 4000000 in
theorem indexFunc_any (v : Value) (L : List (List UInt8)) (w : World) (hr : Rd w v (strsV L)) (hL : L.length ≤ 1000000000) (hs : ∀ p ∈ L, p.length < 1000000000) :
    Calls Tryd.prog 33 #[v, .func (.func 24) #[] #[]] w
      (fun e w' => ∃ i : Int, e = .returned (.int .i64 i) ∧ decide (0 ≤ i) = !(L.all partB) ∧ w.grownBy w' none) := by
  obtain ⟨A, c, rfl⟩ := hr.form
  rw [strsV_len] at hr ⊢
  have HR := Lib.hid hr
  have HS := Lib.hid hs
  clear hr hs
  go_enter Tryd.func33, Tryd.ntmps33
  go_wp2
  go_loopw [8] (fun i W => ∃ k : Nat, i = .int .i64 k ∧ k ≤ L.length ∧ (L.take k).all partB = true ∧ w.grownBy W none) (fun i _ => L.length - (intOf i).toNat)
  case atStart => exact ⟨0, rfl, Nat.zero_le _, by simp, grown_refl _ _⟩
  case round =>
    obtain ⟨k, rfl, hk, hall, hg⟩ := hrel
    have HA := Lib.hid hall
    have HG := Lib.hid hg
    clear hall hg
    by_cases h : k < L.length
    · obtain ⟨ad, u, rfl, hu, hc⟩ := (HR.out.grown0 HG.out).cellAt (k := k) h
      obtain ⟨_, rfl⟩ := strs_at L hu
      clear hu
      have d0 : decide ((k : Int) < (L.length : Int)) = true := by simp; omega
      have hsz : (bts (L.getD k [])).size < 1000000000 := by
        rw [bts_size]; exact HS.out _ (by simp [List.getElem?_eq_getElem h])
      have HC := Lib.hid (fun w' => none_any (bts (L.getD k [])) w' hsz)
      have HT := Lib.hid (all_takeL L partB k h HA.out)
      have HN := Lib.hid (all_notL L partB k h)
      clear hsz
      generalize L.getD k [] = p at *
      go_wp2_with fail
      refine (HC.out _).mono ?_
      rintro e w1 ⟨rfl, hg1⟩
      have HG1 := Lib.hid (World.grownBy.trans HG.out hg1)
      clear hg1
      rw [bts_data]
      cases hp : partB p
      · go_wp2
        go_ret
        exact ⟨_, rfl, by rw [HN.out hp]; simp, HG1.out⟩
      · go_wp2
        go_roundw
        case rel => exact ⟨k + 1, by go_num, by omega, by rw [HT.out]; exact hp, HG1.out⟩
        case measure =>
          simp [intOf]
          omega
    · have d0 : decide ((k : Int) < (L.length : Int)) = false := by simp; omega
      go_wp2
      go_ret
      refine ⟨_, rfl, ?_, HG.out⟩
      have := HA.out
      rw [List.take_of_length_le (by omega)] at this
      rw [this]
      decide

theorem containsFunc_any (v : Value) (L : List (List UInt8)) (w : World) (hr : Rd w v (strsV L)) (hL : L.length ≤ 1000000000) (hs : ∀ p ∈ L, p.length < 1000000000) :
    Calls Tryd.prog 26 #[v, .func (.func 24) #[] #[]] w (Val (.bool (!(L.all partB))) w) := by
  have H := Lib.hid (indexFunc_any v L w hr hL hs)
  clear hr hL hs
  go_enter Tryd.func26, Tryd.ntmps26
  go_wp2_with fail
  refine H.out.mono ?_
  rintro e w1 ⟨i, rfl, hi, hg⟩
  have HG := Lib.hid hg
  clear hg H
  generalize (!(L.all partB)) = b at *
  go_wp2
  go_ret
  exact ⟨by rw [← hi]; rfl, HG.out⟩

theorem parts_size (s : ByteArray) : (parts s.data.toList).length ≤ s.size + 1 := by
  rw [parts_len, size_len]
  have := List.count_le_length (a := (47 : UInt8)) (l := s.data.toList)
  omega

set_option maxHeartbeats 1000000 in
theorem right_any (s : ByteArray) (w : World) (hs : s.size < 1000000000) :
    Calls Tryd.prog 14 #[.string s] w (Val (.bool (rightB s.data.toList)) w) := by
  have hsl := size_len s
  by_cases h : s.size ≤ 256
  · have d0 : decide ((s.size : Int) ≤ 256) = true := by simp; omega
    have HC := Lib.hid (split_any s w hs)
    have HL := Lib.hid (parts_size s)
    have HP := Lib.hid (part_le s.data.toList)
    have HB := Lib.hid (show rightB s.data.toList = (parts s.data.toList).all partB by rw [rightB, ← hsl]; simp [h])
    have HS := Lib.hid hs
    have HSL := Lib.hid hsl
    clear hsl h hs
    go_enter Tryd.func14, Tryd.ntmps14
    go_wp2_with fail
    refine HC.out.mono ?_
    rintro e w1 ⟨v, rfl, hr, hg, _⟩
    have HG := Lib.hid hg
    have HR := Lib.hid (containsFunc_any v (parts s.data.toList) w1 hr (by have := HL.out; have := HS.out; omega) (fun p hp => by have := HP.out p hp; have := HS.out; have := HSL.out; omega))
    clear hg hr HC
    go_wp2_with fail
    refine HR.out.mono ?_
    rintro e w2 ⟨rfl, hg2⟩
    have HG2 := Lib.hid (World.grownBy.trans HG.out hg2)
    clear hg2 HR
    cases hb : (parts s.data.toList).all partB
    all_goals
      go_wp2
      go_ret
      exact ⟨by rw [HB.out, hb]; rfl, HG2.out⟩
  · have d0 : decide ((s.size : Int) ≤ 256) = false := by simp; omega
    have HB := Lib.hid (show rightB s.data.toList = false by rw [rightB, ← hsl]; simp [h])
    clear h hs hsl
    go_enter Tryd.func14, Tryd.ntmps14
    go_wp2
    go_ret
    exact ⟨by rw [HB.out]; rfl, grown_refl _ _⟩

theorem parts_any (s : ByteArray) (w : World) (hs : s.size < 1000000000) :
    Calls Tryd.prog 11 #[.string s] w (RowOut w (partsB s.data.toList)) := by
  have H := Lib.hid (right_any s w hs)
  have HP := Lib.hid (fun w' => split_any s w' hs)
  have HB := Lib.hid (show partsB s.data.toList = if rightB s.data.toList then parts s.data.toList else [] from rfl)
  clear hs
  go_enter Tryd.func11, Tryd.ntmps11
  go_wp2_with fail
  refine H.out.mono ?_
  rintro e w1 ⟨rfl, hg⟩
  have HG := Lib.hid hg
  clear hg H
  cases hb : rightB s.data.toList
  · go_wp2
    go_ret
    exact ⟨_, rfl, by rw [HB.out, hb]; exact Rd.nil _, HG.out, fun b hb => by cases hb⟩
  · go_wp2_with fail
    refine (HP.out _).mono ?_
    rintro e w2 ⟨v, rfl, hr, hg2, hb⟩
    have HR := Lib.hid (And.intro hr (And.intro (World.grownBy.trans HG.out hg2) (fun b h => And.intro (Nat.le_trans HG.out.size (hb b h).1) (hb b h).2)))
    clear hr hg2 hb
    go_wp2
    go_ret
    exact ⟨v, rfl, by rw [HB.out, hb]; exact HR.out.1, HR.out.2.1, HR.out.2.2⟩
end Go.Proofs.YtohndlfekecfoaaDoor
