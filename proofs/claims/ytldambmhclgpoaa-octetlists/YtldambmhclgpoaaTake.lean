/-
  octet's Reader: take, over this program.
-/
import Derived.Test.YtldambmhclgpoaaFirst
namespace Go.Proofs.Ytldambmhclgpoaa
open Go.RowKit

/-- What is taken of n bytes, what is left, and the error. -/
def takeOf (l : List UInt8) (x : Int) (n : Nat) : List UInt8 × List UInt8 × Int :=
  if x = 0 then (if n ≤ l.length then (l.take n, l.drop n, 0) else ([], l, 2)) else ([], l, x)

def TakeOut (w : World) (g : Nat) (p : List UInt8 × List UInt8 × Int) (e : Ending) (w' : World) : Prop :=
  ∃ v, e = .returned v ∧ Rd w' v (bytesV p.1) ∧ (∀ b, v.ownBlock = some b → b < g) ∧ Rdr w' g p.2.1 p.2.2 ∧ w.grownBy w' (some g)

set_option maxHeartbeats 400000 in
theorem take_nil (n : Int) (w : World) :
    Calls Try.prog 37 #[.pointer none, .int .i64 n] w fun e w' => e = .returned (.slice none 0 0) ∧ w = w' := by
  by_cases h : 0 < n
  all_goals
    go_enter Try.func37, Try.ntmps37
    go_wp2_with (first | (go_at_call 26; refine (left_nil _).mono ?_; rintro e w1 ⟨rfl, rfl⟩) | (go_at_call 28; refine (err_nil _).mono ?_; rintro e w1 ⟨rfl, rfl⟩) | (go_at_call 27; refine (fail_nil _ _).mono ?_; rintro e w1 ⟨rfl, rfl⟩))
    go_ret
    exact ⟨rfl, rfl⟩

set_option maxHeartbeats 1000000 in
theorem take_at (g : Nat) (l : List UInt8) (x : Int) (n : Nat) (w : World) (h : Rdr w g l x) :
    Calls Try.prog 37 #[.pointer (some ⟨g, 0, none⟩), .int .i64 n] w (TakeOut w g (takeOf l x n)) := by
  have HR := h
  have HL := Lib.hid (left_at g l x w h)
  by_cases hx : x = 0
  · by_cases hn : n ≤ l.length
    · have hT : takeOf l x n = (l.take n, l.drop n, 0) := by unfold takeOf; rw [if_pos hx, if_pos hn]
      rw [hT]
      subst hx
      clear hT
      have hlo : leftOf l 0 = l.length := by unfold leftOf; rw [if_pos rfl]
      rw [hlo] at HL
      clear hlo
      have HE := Lib.hid (err_at g l 0 w h)
      obtain ⟨v, hb, hv, hlt⟩ := h
      have HV := hv
      obtain ⟨A, c, rfl⟩ := hv.form
      rw [bytesV_len] at HV hb hlt
      clear hv
      obtain ⟨_, hlc, hcm⟩ := HV.len
      have HCM : Hid (c ≤ maxLen) := hcm
      have hc63 : (c : Int) ≤ 9223372036854775807 := by simp only [maxLen] at hcm; omega
      have h1 : w.cell? ⟨g, 0, none⟩ = some (.slice A l.length c) := by rw [cell_of_row w g 0 _ _ _ hb]; rfl
      have h2 : w.frozen? ⟨g, 0, none⟩ = false := by simp [World.frozen?, hb]
      have HB := Lib.hid hb
      clear hb hcm
      generalize hm : l.length = m at *
      have HM := Lib.hid hm
      clear hm
      go_enter Try.func37, Try.ntmps37
      go_wp2_with (first | (go_at_call 26; refine HL.out.mono ?_; rintro e w1 ⟨rfl, rfl⟩) | (go_at_call 28; refine HE.out.mono ?_; rintro e w1 ⟨rfl, rfl⟩))
      · have hcn : c = n := by assumption
        have hmn : m = n := by omega
        go_ret
        have hd : l.drop n = [] := List.drop_eq_nil_of_le (by rw [HM.out]; omega)
        refine ⟨_, rfl, ?_, fun b hb => hlt b (by rw [← hb]; exact own_len _ _ _ _ _), ⟨_, by rw [row_set HB.out]; rfl, ?_, fun b hb => hlt b (by rw [← hb]; exact own_len _ _ _ _ _)⟩, grown_set _ _ _ _⟩
        · show Rd _ _ (List.map byteV (l.take n))
          rw [List.map_take]
          exact (HV.take hn (Nat.le_refl _) (by omega)).grown (grown_set _ _ _ _) (fun b hb e => by have := hlt b (by rw [← hb]; exact own_len _ _ _ _ _); injection e; omega)
        · show Rd _ _ (List.map byteV (l.drop n))
          rw [hd, show m - n = 0 by omega]
          exact Rd.empty _ _ _ (Nat.zero_le _)
      · go_ret
        refine ⟨_, rfl, ?_, fun b hb => hlt b (by rw [← hb]; exact own_len _ _ _ _ _), ⟨_, by rw [row_set HB.out]; rfl, ?_, fun b hb => hlt b (by rw [← hb]; exact (own_map _ _ _ _ _ _).symm)⟩, grown_set _ _ _ _⟩
        · show Rd _ _ (List.map byteV (l.take n))
          rw [List.map_take]
          exact (HV.take hn (Nat.le_refl _) (by omega)).grown (grown_set _ _ _ _) (fun b hb e => by have := hlt b (by rw [← hb]; exact own_len _ _ _ _ _); injection e; omega)
        · show Rd _ _ (List.map byteV (l.drop n))
          rw [List.map_drop]
          exact (HV.drop hn).grown (grown_set _ _ _ _) (fun b hb e => by have := hlt b (by rw [← hb]; exact (own_map _ _ _ _ _ _).symm); injection e; omega)
    · have hT : takeOf l x n = ([], l, 2) := by unfold takeOf; rw [if_pos hx, if_neg hn]
      rw [hT]
      subst hx
      clear hT
      have hlo : leftOf l 0 = l.length := by unfold leftOf; rw [if_pos rfl]
      rw [hlo] at HL
      clear hlo
      have HF := Lib.hid (fail_at g l 0 2 w h)
      clear h
      go_enter Try.func37, Try.ntmps37
      go_wp2_with (go_at_call 26; refine HL.out.mono ?_; rintro e w1 ⟨rfl, rfl⟩)
      refine HF.out.mono ?_
      rintro e w1 ⟨rfl, hr, hg⟩
      have HE := Lib.hid (err_at g l 2 w1 hr)
      go_wp2_with (go_at_call 28; refine HE.out.mono ?_; rintro e w2 ⟨rfl, rfl⟩)
      go_ret
      exact ⟨_, rfl, Rd.nil _, (fun b hb => by cases hb), hr, hg⟩
  · have hT : takeOf l x n = ([], l, x) := by unfold takeOf; rw [if_neg hx]
    rw [hT]
    clear hT
    have hlo : leftOf l x = 0 := by unfold leftOf; rw [if_neg hx]
    rw [hlo] at HL
    clear hlo
    have hx1 : (x != 0) = true := by simpa using hx
    by_cases hn : 0 < n
    · have HF := fail_at g l x 2 w h
      have hfo : failOf x 2 = x := by unfold failOf; rw [if_neg hx]
      rw [hfo] at HF
      have HF := Lib.hid HF
      clear h hfo
      go_enter Try.func37, Try.ntmps37
      go_wp2_with (go_at_call 26; refine HL.out.mono ?_; rintro e w1 ⟨rfl, rfl⟩)
      refine HF.out.mono ?_
      rintro e w1 ⟨rfl, hr, hg⟩
      have HE := Lib.hid (err_at g l x w1 hr)
      go_wp2_with (go_at_call 28; refine HE.out.mono ?_; rintro e w2 ⟨rfl, rfl⟩)
      go_ret
      exact ⟨_, rfl, Rd.nil _, (fun b hb => by cases hb), hr, hg⟩
    · have HE := Lib.hid (err_at g l x w h)
      obtain rfl : n = 0 := by omega
      clear h
      go_enter Try.func37, Try.ntmps37
      go_wp2_with (first | (go_at_call 26; refine HL.out.mono ?_; rintro e w1 ⟨rfl, rfl⟩) | (go_at_call 28; refine HE.out.mono ?_; rintro e w1 ⟨rfl, rfl⟩))
      go_ret
      exact ⟨_, rfl, Rd.nil _, (fun b hb => by cases hb), HR, grown_refl _ _⟩
end Go.Proofs.Ytldambmhclgpoaa
