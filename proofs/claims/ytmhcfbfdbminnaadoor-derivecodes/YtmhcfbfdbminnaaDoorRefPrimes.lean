/-
  The document's own primes over this program.
-/
import Derived.Test.YtmhcfbfdbminnaaDoorAppInts
import Derived.Test.YtmhcfbfdbminnaaDoorRootN
namespace Go.Proofs.YtmhcfbfdbminnaaDoor
open Go.RowKit

def noneDiv (o : List Nat) (p : Nat) : Bool := o.all (fun q => p % q != 0)
theorem noneDiv_take (o : List Nat) (p j : Nat) (h : j < o.length) : noneDiv (o.take (j + 1)) p = (noneDiv (o.take j) p && (p % o.getD j 0 != 0)) := by
  unfold noneDiv
  rw [List.take_succ_eq_append_getElem h, List.all_append]
  simp [List.getElem?_eq_getElem h]
theorem own_int1 (w : World) (base x : Nat) (hb : base ≤ w.heap.size) : (w.alloc (.cells #[intV x] 3)).ownsRow base 3 1 (.slice (some ⟨w.heap.size, 0, none⟩) 1 1) 1 (intsV [x]) :=
  World.ownsRow_lit w #[intV x] 1 hb (by decide) rfl
theorem Rd.int1 (w : World) (x : Nat) : Rd (w.alloc (.cells #[.int .i64 (x : Int)] 3)) (.slice (some ⟨w.heap.size, 0, none⟩) 1 1) (intsV [x]) := Rd.one w _ 3

theorem sieve_len_le (k : Nat) : (sieveN k).length ≤ k := by
  induction k with
  | zero => simp [sieveN]
  | succ k ih =>
    unfold sieveN
    split
    · rw [List.length_append]; simp; omega
    · omega

set_option maxHeartbeats 4000000 in
theorem primes_any (n K : Nat) (hK : (sieveN K).length = n) (hK4 : K ≤ 400) (w : World) :
    Calls Tryd.prog 34 #[.int .i64 (n : Int)] w (OutI w (sieveN K)) := by
  have HK := Lib.hid hK
  clear hK
  go_enter Tryd.func34, Tryd.ntmps34
  go_wp2
  go_loopw [3, 4] (fun u p W => ∃ k : Nat, k ≤ K ∧ p = .int .i64 ((k : Int) + 2) ∧ W.ownsRow w.heap.size 3 1 u (sieveN k).length (intsV (sieveN k)) ∧ w.grownBy W none) (fun _ p _ => K + 3 - (intOf p).toNat)
  case atStart => exact ⟨0, Nat.zero_le _, rfl, World.ownsRow_nil _ _ _ _, grown_refl _ _⟩
  case round =>
    obtain ⟨k, hk, rfl, ho, hg⟩ := hrel
    have HO := Lib.hid ho
    have HG := Lib.hid hg
    have hrd := Rd.of_own ho
    obtain ⟨A, c, rfl⟩ := hrd.form
    simp only [intsV_len] at *
    have HRD := Lib.hid hrd
    have hlenle := sieve_len_le k
    clear ho hg hrd
    by_cases hlt : (sieveN k).length < n
    · have hkK : k < K := by
        have h1 := HK.out
        have h2 : k ≠ K := by rintro rfl; omega
        omega
      have hst : sieveN (k + 1) = if noneDiv (sieveN k) (k + 2) then sieveN k ++ [k + 2] else sieveN k := rfl
      have HST := Lib.hid hst
      have HGE := Lib.hid (sieve_ge k)
      generalize hS : sieveN k = o at *
      generalize hm : o.length = m at *
      have HM := Lib.hid hm
      clear hst hS hm
      go_wp2
      go_loop [5, 6] (fun f i => ∃ j : Nat, j ≤ m ∧ i = .int .i64 j ∧ f = .bool (noneDiv (o.take j) (k + 2))) (fun _ i => m - (intOf i).toNat)
      case atStart => exact ⟨0, Nat.zero_le _, rfl, rfl⟩
      case round =>
        obtain ⟨j, hj, rfl, rfl⟩ := hrel
        by_cases hlj : j < m
        · obtain ⟨ad, rfl, hc⟩ := HRD.out.num j (by rw [HM.out]; exact hlj)
          have hq2 : 2 ≤ o.getD j 0 ∧ o.getD j 0 ≤ k + 1 := HGE.out _ (by
            rw [List.getD_eq_getElem?_getD, List.getElem?_eq_getElem (by rw [HM.out]; exact hlj)]
            exact List.getElem_mem _)
          have HT := Lib.hid (noneDiv_take o (k + 2) j (by rw [HM.out]; exact hlj))
          generalize o.getD j 0 = q at *
          have hmod : ((k : Int) + 2).tmod (q : Int) = (((k + 2) % q : Nat) : Int) := by
            rw [show ((k : Int) + 2) = ((k + 2 : Nat) : Int) by omega]
            rfl
          have hq0 : ¬ ((q : Int) = 0) := by omega
          by_cases hd : (k + 2) % q = 0
          · have hd0 : ((k : Int) + 2) % (q : Int) = 0 := by
              rw [show ((k : Int) + 2) = ((k + 2 : Nat) : Int) by omega, ← Int.natCast_emod, hd]; rfl
            go_wp2
            go_round
            case rel => exact ⟨j + 1, by omega, by go_num, by rw [HT.out]; simp [hd]⟩
            case measure => simp [intOf]; omega
          · have hd0 : ((((k : Int) + 2) % (q : Int)) == 0) = false := by
              rw [show ((k : Int) + 2) = ((k + 2 : Nat) : Int) by omega, ← Int.natCast_emod]
              generalize (k + 2) % q = r at *
              simp only [beq_eq_false_iff_ne, ne_eq]
              omega
            go_wp2
            go_round
            case rel => exact ⟨j + 1, by omega, by go_num, by rw [HT.out]; simp [hd]⟩
            case measure => simp [intOf]; omega
        · have hf : o.take j = o := List.take_of_length_le (by rw [HM.out]; omega)
          rw [hf]
          cases hnd : noneDiv o (k + 2) with
          | false =>
            have hs2 : sieveN (k + 1) = o := by rw [HST.out, hnd]; rfl
            have HS2 := Lib.hid hs2
            clear hf hnd hs2
            go_wp2
            go_roundw
            case rel => exact ⟨k + 1, by omega, by go_num, by rw [HS2.out, HM.out]; exact HO.out, HG.out⟩
            case measure => simp [intOf]; omega
          | true =>
            have hs2 : sieveN (k + 1) = o ++ [k + 2] := by rw [HST.out, hnd]; rfl
            have HS2 := Lib.hid hs2
            clear hf hnd hs2
            go_wp2_with (at_builtin; refine wpList_append_ints _ rfl _ _ rfl w.heap.size _ m _ rfl (HO.out.alloc _) _ [k + 2] rfl ?_ ?_ ?_ ?_)
            · have := Rd.int1 wr (k + 2)
              rw [show ((k + 2 : Nat) : Int) = (k : Int) + 2 by omega] at this
              exact this
            · first | omega | (simp; omega)
            · have := HG.out.size; first | omega | (simp; omega)
            · intro v' w' ho hg hat
              have HO' := Lib.hid ho
              have HG' := Lib.hid hg
              clear ho hg hat
              go_wp2
              go_roundw
              case rel =>
                refine ⟨k + 1, by omega, by go_num, ?_, grown_new (grown_alloc HG.out _) HG'.out (fun b hb => (HO.out.lt b hb).1)⟩
                rw [HS2.out, List.length_append, HM.out, intsV_app]
                exact HO'.out
              case measure => simp [intOf]; omega
    · have hkK : sieveN k = sieveN K := by
        have h1 := HK.out
        exact sieve_same k K hk (by omega)
      have hlt' : decide (((sieveN k).length : Int) < (n : Int)) = false := by simp; omega
      generalize (sieveN k).length = m at *
      rw [hkK] at HRD
      clear hkK
      go_wp2
      go_ret
      exact ⟨_, rfl, HRD.out, HG.out⟩
end Go.Proofs.YtmhcfbfdbminnaaDoor
