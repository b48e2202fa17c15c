/-
  path.Compare over this program.
-/
import Derived.Test.YtohndlfekecfoaaDoorPtRight
namespace Go.Proofs.YtohndlfekecfoaaDoor
set_option maxRecDepth 1000000
open Go.RowKit

def strSize : Value → Nat
  | .string s => s.size
  | _ => 0
theorem str_eq (a b : ByteArray) : (a.toList == b.toList) = decide (a.data.toList = b.data.toList) := by
  rw [Lib.toList_data, Lib.toList_data]
  by_cases h : a.data.toList = b.data.toList
  · rw [h]; simp
  · rw [beq_eq_false_iff_ne.2 h]; simp [h]

theorem one_of {P Q R : Prop} (h : (false = true ∧ P ∧ Q) ∨ (false = false ∧ R)) : R := by
  rcases h with h | h
  · cases h.1
  · exact h.2
theorem more_of {P Q R : Prop} (h : (true = true ∧ P ∧ Q) ∨ (true = false ∧ R)) : P ∧ Q := by
  rcases h with h | h
  · exact h.2
  · cases h.1

set_option maxHeartbeats 4000000 in
theorem compare_any (a b : ByteArray) (w : World) (ha : a.size < 1000000000) (hb : b.size < 1000000000) :
    Calls Tryd.prog 17 #[.string a, .string b] w (Val (.int .i64 (cmpP a.data.toList b.data.toList)) w) := by
  have HAB := Lib.hid (And.intro ha hb)
  clear ha hb
  generalize hC : cmpP a.data.toList b.data.toList = C at *
  go_enter Tryd.func17, Tryd.ntmps17
  go_wp2
  go_loopw [0, 1] (fun u v W => ∃ x y : ByteArray, u = .string x ∧ v = .string y ∧ x.size < 1000000000 ∧ y.size < 1000000000 ∧ cmpP x.data.toList y.data.toList = C ∧ w.grownBy W none) (fun u _ _ => strSize u)
  case atStart => exact ⟨a, b, rfl, rfl, HAB.out.1, HAB.out.2, hC, grown_refl _ _⟩
  case round =>
    clear hC HAB
    obtain ⟨x, y, rfl, rfl, hx, hy, hc, hg⟩ := hrel
    have HX := Lib.hid (And.intro hx hy)
    have H1 := Lib.hid (fun w' => cut_any x w' hx)
    have H2 := Lib.hid (fun w' => cut_any y w' hy)
    have HC := Lib.hid hc
    have HG := Lib.hid hg
    clear hx hy hc hg
    go_wp2_with fail
    refine (H1.out _).mono ?_
    rintro e w1 ⟨x1, x2, b1, rfl, hg1, hx⟩
    have HG1 := Lib.hid (World.grownBy.trans HG.out hg1)
    have HP1 := Lib.hid hx
    clear hg1 hx H1
    go_wp2_with fail
    refine (H2.out _).mono ?_
    rintro e w2 ⟨y1, y2, b2, rfl, hg2, hy⟩
    have HG2 := Lib.hid (World.grownBy.trans HG1.out hg2)
    have HP2 := Lib.hid hy
    clear hg2 hy H2
    have hse := str_eq x1 y1
    by_cases hxy : x1.data.toList = y1.data.toList
    · have hd : (x1.toList == y1.toList) = true := by rw [hse]; simp [hxy]
      have HXY := Lib.hid hxy
      clear hse hxy
      cases b1
      · have e1 : parts x.data.toList = [x1.data.toList] := by exact one_of HP1.out
        cases b2
        · have e2 : parts y.data.toList = [y1.data.toList] := by exact one_of HP2.out
          have HE := Lib.hid (show C = 0 by rw [← HC.out, cmpP, e1, e2, cmpL_cons, if_pos HXY.out]; rfl)
          clear e1 e2
          go_wp2
          go_ret
          exact ⟨by rw [HE.out]; rfl, HG2.out⟩
        · have e2 : parts y.data.toList = y1.data.toList :: parts y2.data.toList := by exact (more_of HP2.out).1
          have HE := Lib.hid (show C = -1 by rw [← HC.out, cmpP, e1, e2, cmpL_cons, if_pos HXY.out, cmpL_nil _ (parts_ne _)])
          clear e1 e2
          go_wp2
          go_ret
          exact ⟨by rw [HE.out]; rfl, HG2.out⟩
      · have e1 : parts x.data.toList = x1.data.toList :: parts x2.data.toList := by exact (more_of HP1.out).1
        have hlt : x2.size < x.size := by exact (more_of HP1.out).2
        cases b2
        · have e2 : parts y.data.toList = [y1.data.toList] := by exact one_of HP2.out
          have HE := Lib.hid (show C = 1 by rw [← HC.out, cmpP, e1, e2, cmpL_cons, if_pos HXY.out, cmpL_nil' _ (parts_ne _)])
          clear e1 e2 hlt
          go_wp2
          go_ret
          exact ⟨by rw [HE.out]; rfl, HG2.out⟩
        · have e2 : parts y.data.toList = y1.data.toList :: parts y2.data.toList := by exact (more_of HP2.out).1
          have hlt2 : y2.size < y.size := by exact (more_of HP2.out).2
          have HE := Lib.hid (show cmpP x2.data.toList y2.data.toList = C by rw [← HC.out, cmpP, cmpP, e1, e2, cmpL_cons, if_pos HXY.out])
          have HS := Lib.hid (And.intro hlt (show x2.size < 1000000000 ∧ y2.size < 1000000000 by have := HX.out; omega))
          clear e1 e2 hlt hlt2
          go_wp2
          exact ⟨⟨x2, y2, rfl, rfl, HS.out.2.1, HS.out.2.2, HE.out, HG2.out⟩, HS.out.1⟩
    · have hd : (x1.toList == y1.toList) = false := by rw [hse]; simp [hxy]
      have HXY := Lib.hid hxy
      clear hse hxy
      go_wp2_with fail
      refine (sh_Compare _ _ _).mono ?_
      rintro e w3 ⟨rfl, rfl⟩
      go_wp2
      go_ret
      refine ⟨?_, HG2.out⟩
      have he : C = cmpT x1.data.toList y1.data.toList := by
        rw [← HC.out, cmpP]
        rcases HP1.out with ⟨_, e1, _⟩ | ⟨_, e1⟩ <;> rcases HP2.out with ⟨_, e2, _⟩ | ⟨_, e2⟩ <;> rw [e1, e2, cmpL_cons, if_neg HXY.out]
      rw [he, cmpT, ← compare_cmp]
      rfl
end Go.Proofs.YtohndlfekecfoaaDoor
