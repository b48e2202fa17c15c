/-
  The statements' told over this program: files as the document has their entries.
-/
import Derived.Test.YtiakkfcjdmecdaaDoorEnFl
namespace Go.Proofs.YtiakkfcjdmecdaaDoor
set_option maxRecDepth 1000000
open Go.RowKit

set_option maxHeartbeats 4000000 in
theorem told_any (l : List Fl) (v : Value) (w : World) (hv : RdF w v l) (hl : l.length ≤ 100000) (hd : ∀ f ∈ l, f.data.length ≤ 1000000) :
    Calls Tryd.prog 14 #[v] w (EntsOut w (toldF 0 l)) := by
  obtain ⟨A, c, rfl⟩ := hv.form
  have HV := Lib.hid hv
  have HL := Lib.hid hl
  have HD := Lib.hid hd
  clear hv hl hd
  obtain ⟨n, hn⟩ : ∃ n, l.length = n := ⟨_, rfl⟩
  have HN := Lib.hid hn
  rw [hn] at HL HV ⊢
  clear hn
  go_enter Tryd.func14, Tryd.ntmps14
  go_wp2
  go_loopw [3, 4, 9] (fun s b i W => ∃ k : Nat, k ≤ n ∧ i = .int .i64 k ∧ b = .int .i64 ((dataF (l.take k)).length : Int) ∧ W.ownsRow w.heap.size 66 7 s k (enCs (toldF 0 (l.take k))) ∧ w.grownBy W none) (fun _ _ i _ => n - (intOf i).toNat)
  case atStart => exact ⟨0, Nat.zero_le _, rfl, rfl, World.ownsRow_nil _ _ _ _, grown_refl _ _⟩
  case round =>
    obtain ⟨k, hk, rfl, rfl, ho, hg⟩ := hrel
    by_cases hlt : k < n
    · have hkl : k < l.length := by rw [HN.out]; exact hlt
      have hnn := HL.out
      obtain ⟨ad, rfl, A2, c2, hrd, c0, c1, c2', c3, c4, c5⟩ := (HV.out.grown0 hg).step hkl
      have HO := Lib.hid ho
      have HG := Lib.hid hg
      have HNX := Lib.hid (show enCs (toldF 0 (l.take (k + 1))) = enCs (toldF 0 (l.take k)) ++ enC (enF (l.getD k default) (dataF (l.take k)).length) by rw [toldF_next l k hkl, enCs_app]; simp [enCs])
      have HND := Lib.hid (show (dataF (l.take (k + 1))).length = (dataF (l.take k)).length + (l.getD k default).data.length by rw [dataF_next l k hkl, List.length_append])
      have hb1 : (dataF (l.take k)).length ≤ 100000000000 := by
        have h1 := dataF_bound 1000000 (l.take k) (fun f hf => HD.out f (List.mem_of_mem_take hf))
        have h2 : (l.take k).length ≤ 100000 := by rw [List.length_take]; omega
        have h3 : (l.take k).length * 1000000 ≤ 100000 * 1000000 := Nat.mul_le_mul_right _ h2
        omega
      have hb2 := HD.out (l.getD k default) (by simp [List.getElem?_eq_getElem hkl])
      clear hrd ho hg
      generalize l.getD k default = t at *
      generalize (dataF (l.take k)).length = b at *
      have hw64 : wrap64 ((b : Int) + (t.data.length : Int)) = (b : Int) + (t.data.length : Int) := by unfold wrap64; omega
      go_wp2_with (first
        | (refine wpList_buildEn rfl _ 66 29 (.inr ⟨rfl, rfl⟩) rfl (enF t b) rfl ?_)
        | (at_builtin; refine wpList_appEn rfl _ _ 66 29 (.inr ⟨rfl, rfl⟩) rfl w.heap.size u3 k (enCs (toldF 0 (l.take k))) rfl (own_grown7 (own_grown7 HO.out (grown_alloc (grown_refl _ none) _)) (grown_alloc (grown_refl _ none) _)) _ (enF t b) rfl (Row.new _ _ (enC (enF t b))) (by omega) (by have := HG.out.size; simp; omega) ?_; intro g' c' w7 ho7 hg7 hat7; have HO7 := Lib.hid ho7; have HG7 := Lib.hid hg7; have c54 := (((Row.new wr 52 (flC t (.slice A2 t.data.length c2))).alloc (.cells (enC (enF t b)).toArray 66)).grown hg7 (fun e => by have := (HO.out.lt _ e.symm).2; omega)).cell (j := 4) rfl; clear ho7 hg7 hat7 c0 c1 c2' c3 c5))
      go_roundw
      case rel =>
        refine ⟨k + 1, by omega, by go_num, by rw [HND.out]; go_num, by rw [HNX.out]; exact HO7.out, ?_⟩
        exact grown_new (grown_alloc (grown_alloc HG.out _) _) HG7.out (fun r e => (HO.out.lt r e).1)
      case measure => simp only [intOf]; omega
    · have hkn : k = n := by omega
      subst hkn
      have hw : l.take k = l := by rw [← HN.out, List.take_length]
      rw [hw] at ho
      have HO := Lib.hid ho
      clear ho
      go_wp2
      go_ret
      exact ⟨_, rfl, RdE.of_own (by rw [toldF_len, HN.out]) HO.out, hg⟩
end Go.Proofs.YtiakkfcjdmecdaaDoor
