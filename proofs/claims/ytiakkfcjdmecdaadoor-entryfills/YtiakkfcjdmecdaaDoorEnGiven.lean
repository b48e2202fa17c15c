/-
  The statements' given over this program: entries as the document has them.
-/
import Derived.Test.YtiakkfcjdmecdaaDoorEnRow
namespace Go.Proofs.YtiakkfcjdmecdaaDoor
set_option maxRecDepth 1000000
open Go.RowKit

/-- What a call answers that makes new entries. -/
def EntsOut (w : World) (l : List En) (e : Ending) (w' : World) : Prop := ∃ v, e = .returned v ∧ RdE w' v l ∧ w.grownBy w' none
theorem own_grown7 {w w' : World} {base : Nat} {e : TypeId} {s : Nat} {v : Value} {n : Nat} {xs : List Value} (h : w.ownsRow base e s v n xs) (hg : w.grownBy w' none) : w'.ownsRow base e s v n xs := h.kept hg (by simp; exact Classical.em _)
set_option maxHeartbeats 4000000 in
theorem given_any (l : List En) (v : Value) (w : World) (hv : RdE w v l) (hl : l.length ≤ 100000) :
    Calls Tryd.prog 19 #[v] w (EntsOut w l) := by
  obtain ⟨A, c, rfl⟩ := hv.form
  have HV := Lib.hid hv
  have HL := Lib.hid hl
  clear hv hl
  obtain ⟨n, hn⟩ : ∃ n, l.length = n := ⟨_, rfl⟩
  have HN := Lib.hid hn
  rw [hn] at HL HV ⊢
  clear hn
  go_enter Tryd.func19, Tryd.ntmps19
  go_wp2
  go_loopw [8, 3] (fun i s W => ∃ k : Nat, k ≤ n ∧ i = .int .i64 k ∧ W.ownsRow w.heap.size 66 7 s k (enCs (l.take k)) ∧ w.grownBy W none) (fun i _ _ => n - (intOf i).toNat)
  case atStart => exact ⟨0, Nat.zero_le _, rfl, World.ownsRow_nil _ _ _ _, grown_refl _ _⟩
  case round =>
    obtain ⟨k, hk, rfl, ho, hg⟩ := hrel
    by_cases hlt : k < n
    · have hkl : k < l.length := by rw [HN.out]; exact hlt
      have hnn := HL.out
      obtain ⟨ad, rfl, c0, c1, c2, c3, c4, c5, c6⟩ := (HV.out.grown0 hg).step hkl
      have HO := Lib.hid ho
      have HG := Lib.hid hg
      have HNX := Lib.hid (show enCs (l.take (k + 1)) = enCs (l.take k) ++ enC (l.getD k default) by rw [takeE l k hkl, enCs_app]; simp [enCs])
      generalize l.getD k default = t at *
      clear ho hg
      go_wp2_with (first
        | (refine wpList_buildEn rfl _ 66 29 (.inr ⟨rfl, rfl⟩) rfl t rfl ?_)
        | (at_builtin; refine wpList_appEn rfl _ _ 66 29 (.inr ⟨rfl, rfl⟩) rfl w.heap.size u3 k (enCs (l.take k)) rfl (own_grown7 (own_grown7 HO.out (grown_alloc (grown_refl _ none) _)) (grown_alloc (grown_refl _ none) _)) _ t rfl (Row.new _ _ (enC t)) (by omega) (by have := HG.out.size; simp; omega) ?_; intro g' c' w7 ho7 hg7 hat7; have HO7 := Lib.hid ho7; have HG7 := Lib.hid hg7; clear ho7 hg7 hat7 c0 c1 c2))
      go_roundw
      case rel =>
        refine ⟨k + 1, by omega, rfl, by rw [HNX.out]; exact HO7.out, ?_⟩
        exact grown_new (grown_alloc (grown_alloc HG.out _) _) HG7.out (fun r e => (HO.out.lt r e).1)
      case measure => simp only [intOf]; omega
    · have hkn : k = n := by omega
      subst hkn
      have hw : l.take k = l := by rw [← HN.out, List.take_length]
      rw [hw] at ho
      go_wp2
      go_ret
      exact ⟨_, rfl, RdE.of_own HN.out.symm ho, hg⟩
end Go.Proofs.YtiakkfcjdmecdaaDoor
