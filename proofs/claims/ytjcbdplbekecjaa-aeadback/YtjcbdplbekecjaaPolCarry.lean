/-
  poly.carried over this program: each limb in its bits.
-/
import Derived.Test.YtjcbdplbekecjaaPolSmall
namespace Go.Proofs.Ytjcbdplbekecjaa
open Go.RowKit

section
variable {P : Program}
/-- Two results: the first lies in a block of its own. -/
theorem results_row_tmp {tmps : Array Value} {w : World} {f : Func} {d u : Nat} {ty : TypeId} (hres : f.results = #[.cell d ty, .tmp u]) (g : Nat) (t : TypeId) (cs : List Value) (de : TypeDesc) (hv : tmps.getD d undef = .pointer (some ⟨g, 0, none⟩)) (hr : Row w g t cs)
    (hu : P.underlying ty = some de) (hd : (match de with | .struct _ | .array _ _ => true | _ => false) = true) (hi : (P.info? ty).map (·.size) = some cs.length) :
    (results f tmps).run P w = .ok (.tuple #[.agg cs.toArray, tmps.getD u undef]) w := by
  have hl := run_load_part (P := P) w g 0 t ty cs cs de hr (fun j u hu => by rw [Nat.zero_add]; exact hu) hu hd hi
  simp only [results, hres]
  rw [Array.getD_eq_getD_getElem?] at hv
  simp [hv, asAddr, hl]
end
theorem index_limb (l : List Nat) (h5 : l.length = 5) (k : Nat) (hk : k < 5) (w : World) : (Instr.index 69 (.agg (limbsV l).toArray) (.int .i64 (k : Int))).run Try.prog w = .ok (.int .u64 ((l.getD k 0 : Nat) : Int)) w := by
  have hs : (sizeOf 43).run Try.prog w = .ok 1 w := by kernel_rfl
  have hc := limbsV_at l k (by omega)
  simp [Instr.index, asIntOf, run_underlying Try.underlying69, hs, hk, part, hc]
def noughts64 (n : Nat) : List Value := List.replicate n (.int .u64 0)
theorem and26 (x : Nat) (h : x < 18446744073709551616) : bits .and .u64 (x : Int) 67108863 = ((x % 67108864 : Nat) : Int) := by
  have := u64_and_nat x 67108863 h (by decide)
  rw [show (67108863 : Int) = ((67108863 : Nat) : Int) from rfl, this]
  congr 1
  exact Nat.and_two_pow_sub_one_eq_mod x 26
/-- So many limbs are carried. -/
def carK (l : List Nat) (k : Nat) : List Nat := digs 67108864 k (valL l) ++ l.drop k
theorem carK_len (l : List Nat) (h5 : l.length = 5) (k : Nat) (hk : k ≤ 5) : (carK l k).length = 5 := by simp [carK, digs_len, h5]; omega
theorem carK_set (l : List Nat) (h5 : l.length = 5) (k : Nat) (hk : k < 5) : (carK l k).set k (valL l / 67108864 ^ k % 67108864) = carK l (k + 1) := by
  unfold carK
  rw [List.set_append_right _ _ (by rw [digs_len]; exact Nat.le_refl _), digs_len, Nat.sub_self, List.drop_eq_getElem_cons (by omega), List.set_cons_zero, digs_more]
  simp
theorem carK_all (l : List Nat) (h5 : l.length = 5) : carK l 5 = digs 67108864 5 (valL l) := by simp [carK, h5]
theorem carK_none (l : List Nat) : carK l 0 = l := by simp [carK, digs]
def Carr (l : List Nat) (w : World) (e : Ending) (w' : World) : Prop := e = .returned (.tuple #[.agg (limbsV (digs 67108864 5 (valL l))).toArray, .int .u64 ((valL l / 67108864 ^ 5 : Nat) : Int)]) ∧ w.grownBy w' none

set_option maxHeartbeats 4000000 in
theorem carried_any (l : List Nat) (h5 : l.length = 5) (hle : Le l 18000000000000000000) (w : World) :
    Calls Try.prog 62 #[.agg (limbsV l).toArray] w (Carr l w) := by
  generalize hG : w.heap.size = G
  have HG := Lib.hid hG
  have H5 := Lib.hid h5
  have HLE := Lib.hid hle
  have HLV := Lib.hid (show (limbsV l).length = 5 by rw [limbsV_len, h5])
  obtain ⟨W0, hW0⟩ : ∃ W, (w.alloc (.cells (limbsV l).toArray 69)).alloc (.cells (noughts64 5).toArray 69) = W := ⟨_, rfl⟩
  have R0 := Lib.hid (show Row W0 G 69 (limbsV l) by rw [← hW0]; exact (Row.newAt w _ (limbsV l) hG).alloc _)
  have R1 := Lib.hid (show Row W0 (G + 1) 69 (noughts64 5) by rw [← hW0]; exact Row.newAt _ _ (noughts64 5) (by simp [hG]))
  have HGR := Lib.hid (show w.grownBy W0 none by rw [← hW0]; exact grown_alloc (grown_alloc (grown_refl _ _) _) _)
  simp only [noughts64, List.replicate] at hW0
  clear h5 hle
  go_enter Try.func62, Try.ntmps62
  go_wp2_with (refine wpList_load_row _ rfl _ 69 rfl G 69 (limbsV l) _ rfl R0.out Try.underlying69 rfl (by rw [HLV.out]; kernel_rfl) ?_)
  clear hG hW0
  go_loopw [4, 8] (fun c i W => ∃ k x : Nat, k ≤ 5 ∧ i = .int .i64 k ∧ c = .int .u64 (x : Int) ∧ x = valL (l.take k) / 67108864 ^ k ∧ x ≤ 549755813888 ∧ Row W G 69 (limbsV (carK l k)) ∧ Row W (G + 1) 69 (noughts64 5) ∧ w.grownBy W none) (fun _ i _ => 5 - (intOf i).toNat)
  case atStart => exact ⟨0, 0, Nat.zero_le _, rfl, rfl, by simp [valL, val], Nat.zero_le _, by rw [carK_none]; exact R0.out, R1.out, HGR.out⟩
  case round =>
    clear R0 R1 HGR
    obtain ⟨k, x, hk, rfl, rfl, hx, hxm, r0, r1, hgr⟩ := hrel
    have R0 := Lib.hid r0
    have R1 := Lib.hid r1
    have HGR := Lib.hid hgr
    clear r1 hgr
    by_cases hlt : k < 5
    · have hidx := index_limb l H5.out k hlt
      have hst := carry_step l k (by rw [H5.out]; exact hlt)
      rw [← hx] at hst
      have hy := HLE.out k
      have hset := carK_set l H5.out k hlt
      have hc0 := r0.cell (limbsV_at (carK l k) k (by rw [carK_len l H5.out k hk]; exact hlt))
      have hf0 := r0.frozen k
      generalize l.getD k 0 = y at *
      generalize (carK l k).getD k 0 = z at *
      rw [← hst.1] at hset
      have HSET := Lib.hid hset
      have HST := Lib.hid hst.2
      have HA := Lib.hid (show bits .and .u64 ((x : Int) + (y : Int)) 67108863 = (((x + y) % 67108864 : Nat) : Int) from and26 (x + y) (by omega))
      have hw : IntKind.u64.wrap ((x : Int) + (y : Int)) = ((x + y : Nat) : Int) := by rw [IntKind.wrap_u64]; omega
      have HXY := Lib.hid (show (x + y) / 67108864 ≤ 549755813888 by omega)
      have HKK := Lib.hid (And.intro hk hlt)
      have hdec : decide ((k : Int) < 5) = true := by simp; omega
      clear hx hst hset r0
      go_wp2
      rw [HA.out]
      go_roundw
      case rel =>
        refine ⟨k + 1, (x + y) / 67108864, by have := HKK.out.2; omega, by go_num, by first | rfl | (congr 1; omega), HST.out, HXY.out, ?_, R1.out.other (by omega) _, grown_own HGR.out (grown_set wr G k _) (by have := HG.out; omega)⟩
        rw [← HSET.out, ← limbsV_set]
        exact R0.out.set k _
      case measure => have := HKK.out.2; simp [intOf]; omega
    · have hk5 : k = 5 := by omega
      subst hk5
      rw [carK_all l H5.out] at R0
      rw [List.take_of_length_le (by rw [H5.out]; exact Nat.le_refl _)] at hx
      have HX := Lib.hid hx
      have HL := Lib.hid (show (limbsV (digs 67108864 5 (valL l))).length = 5 by rw [limbsV_len, digs_len])
      have HO := Lib.hid (fun x hx => limbsV_one (digs 67108864 5 (valL l)) x hx)
      clear r0 hx hxm hk hlt
      obtain ⟨xs, hxs⟩ : ∃ xs, limbsV (digs 67108864 5 (valL l)) = xs := ⟨_, rfl⟩
      rw [hxs] at R0 HL HO
      have HXS := Lib.hid hxs
      clear hxs
      go_wp2_with (first
        | refine wpList_load_row _ rfl _ 69 rfl G 69 xs _ rfl R0.out Try.underlying69 rfl (by rw [HL.out]; kernel_rfl) ?_
        | (refine wpList_store_row _ rfl rfl _ _ 69 rfl (G + 1) 69 (noughts64 5) xs rfl rfl R1.out (by rw [HL.out]; rfl) HO.out (by rw [HL.out]; kernel_rfl) ?_; intro w2 hr2 hg2))
      refine bodyPost_ret (v := .tuple #[.agg xs.toArray, .int .u64 (x : Int)]) ?_ rfl ⟨by rw [HX.out, HXS.out], grown_own HGR.out hg2 (by have := HG.out; omega)⟩
      exact results_row_tmp Try.results62 (G + 1) 69 xs _ rfl hr2 Try.underlying69 rfl (by rw [HL.out]; kernel_rfl)
end Go.Proofs.Ytjcbdplbekecjaa
