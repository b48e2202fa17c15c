/-
  The statements' given over this program: tokens as the document has them.
-/
import Derived.Test.YtbpnkcjaekbcdaaParsePr
namespace Go.Proofs.Ytbpnkcjaekbcdaa
open Go.RowKit

set_option maxHeartbeats 2000000 in
theorem given_any (l : List Tok) (v : Value) (w : World) (hv : RdT w v l) (hl : l.length ≤ 100000) :
    Calls Try.prog 12 #[v] w (ParseOut w l) := by
  obtain ⟨A, c, rfl⟩ := hv.form
  have HV := Lib.hid hv
  have HL := Lib.hid hl
  clear hv hl
  obtain ⟨n, hn⟩ : ∃ n, l.length = n := ⟨_, rfl⟩
  have HN := Lib.hid hn
  rw [hn] at HL HV ⊢
  clear hn
  go_enter Try.func12, Try.ntmps12
  go_wp2
  go_loopw [8, 3] (fun i s W => ∃ k : Nat, k ≤ n ∧ i = .int .i64 k ∧ W.ownsRow w.heap.size 30 3 s k (tokCs (l.take k)) ∧ w.grownBy W none) (fun i _ _ => n - (intOf i).toNat)
  case atStart => exact ⟨0, Nat.zero_le _, rfl, World.ownsRow_nil _ _ _ _, grown_refl _ _⟩
  case round =>
    obtain ⟨k, hk, rfl, ho, hg⟩ := hrel
    by_cases hlt : k < n
    · have hkl : k < l.length := by rw [HN.out]; exact hlt
      have hnn := HL.out
      obtain ⟨ad, t, rfl, ht, c0, c1, c2⟩ := (HV.out.grown0 hg).tok hkl
      have HO := Lib.hid ho
      have HG := Lib.hid hg
      have HNX := Lib.hid (show tokCs (l.take (k + 1)) = tokCs (l.take k) ++ tokC t by rw [List.take_succ_eq_append_getElem hkl, tokCs_app, ht]; simp [tokCs])
      clear ho hg ht
      go_wp2_with (first
        | (refine wpList_buildTok rfl _ 30 26 (.inr ⟨rfl, rfl⟩) rfl t rfl ?_)
        | (at_builtin; refine wpList_appTok rfl _ _ 30 26 (.inr ⟨rfl, rfl⟩) rfl w.heap.size u3 k (tokCs (l.take k)) rfl (own_grown (own_grown HO.out (grown_alloc (grown_refl _ none) _)) (grown_alloc (grown_refl _ none) _)) _ t rfl (Row.new _ _ (tokC t)) (by omega) (by have := HG.out.size; simp; omega) ?_; intro g' c' w7 ho7 hg7 hat7; have HO7 := Lib.hid ho7; have HG7 := Lib.hid hg7; clear ho7 hg7 hat7 c0 c1 c2))
      go_roundw
      case rel =>
        refine ⟨k + 1, by omega, rfl, by rw [HNX.out]; exact HO7.out, ?_⟩
        exact grown_new (grown_alloc (grown_alloc HG.out _) _) HG7.out (fun r e => (HO.out.lt r e).1)
      case measure => simp only [intOf]; omega
    · have hkn : k = n := by omega
      subst hkn
      have hw : l.take k = l := by rw [← HN.out, List.take_length]
      rw [hw] at ho
      go_wp2
      go_ret
      exact ⟨_, rfl, RdT.of_own HN.out.symm ho, hg⟩
end Go.Proofs.Ytbpnkcjaekbcdaa
