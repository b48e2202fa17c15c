/-
  digest.told over this program: a state's words as bytes.
-/
import Derived.Test.YtmhcfbfdbminnaaDoorDigBlock
namespace Go.Proofs.YtmhcfbfdbminnaaDoor
open Go.RowKit

def noughts8 (n : Nat) : List Value := List.replicate n (.int .u8 0)
theorem told_succ (s : List W32) (k : Nat) (h : k < s.length) : told (s.take (k + 1)) = told (s.take k) ++ told1 (s.getD k 0) := by
  rw [List.take_succ_eq_append_getElem h]
  unfold told
  rw [List.flatMap_append]
  simp [List.getElem?_eq_getElem h]
theorem told1_bytes (x : W32) : bytesV (told1 x) = [.int .u8 ((x.toNat : Int) / 16777216), .int .u8 ((x.toNat : Int) / 65536 % 256), .int .u8 ((x.toNat : Int) / 256 % 256), .int .u8 ((x.toNat : Int) % 256)] := by
  have hx := x.isLt
  have h : ((x.toNat / 16777216 % 256 : Nat) : Int) = (x.toNat : Int) / 16777216 := by omega
  simp only [bytesV, byteV, told1, List.map_cons, List.map_nil, UInt8.toNat_ofNat', h]
  simp
theorem set4 (p : List Value) (n : Nat) (a b c d z : Value) : ((((p ++ List.replicate (n + 4) z).set p.length a).set (p.length + 1) b).set (p.length + 2) c).set (p.length + 3) d = p ++ [a, b, c, d] ++ List.replicate n z := by
  rw [show n + 4 = n + 1 + 1 + 1 + 1 by omega]
  simp only [List.replicate_succ, List.set_append_right _ _ (Nat.le_refl _), Nat.sub_self, List.set_cons_zero]
  rw [List.set_append_right _ _ (by omega), List.set_append_right _ _ (by omega), List.set_append_right _ _ (by omega)]
  simp [show p.length + 1 - p.length = 1 by omega, show p.length + 2 - p.length = 2 by omega, show p.length + 3 - p.length = 3 by omega]

theorem cell_set_other (w : World) (g i j : Nat) (v : Value) (h : i ≠ j) : (w.setCell ⟨g, i, none⟩ v).cell? ⟨g, j, none⟩ = w.cell? ⟨g, j, none⟩ := by
  apply World.cell?_setCell_other
  exact fun e => h (by injection e)

set_option maxHeartbeats 4000000 in
theorem told_any (s : List W32) (hs : s.length = 8) (w : World) :
    Calls Tryd.prog 26 #[.agg (wordsV s).toArray] w (Val (.agg (bytesV (told s)).toArray) w) := by
  have HS := Lib.hid hs
  have HWV := Lib.hid (show (wordsV s).length = 8 by rw [wordsV_len, hs])
  have HI := Lib.hid (fun k hk w => run_index_words 44 8 Tryd.underlying44 s hs k hk w)
  clear hs
  generalize hG : w.heap.size = G
  have HG := Lib.hid hG
  have r1 := ((Row.newAt w 44 (wordsV s) HG.out).alloc (.cells (noughts8 32).toArray 24)).alloc (.cells (noughts8 32).toArray 24)
  have r2 := (Row.newAt (w.alloc (.cells (wordsV s).toArray 44)) 24 (noughts8 32) (g := G + 1) (by simp [HG.out])).alloc (.cells (noughts8 32).toArray 24)
  have r3 := Row.newAt ((w.alloc (.cells (wordsV s).toArray 44)).alloc (.cells (noughts8 32).toArray 24)) 24 (noughts8 32) (g := G + 1 + 1) (by simp [HG.out])
  have hg := grown_alloc (grown_alloc (grown_alloc (grown_refl w none) (.cells (wordsV s).toArray 44)) (.cells (noughts8 32).toArray 24)) (.cells (noughts8 32).toArray 24)
  have R1 := Lib.hid r1
  have R2 := Lib.hid r2
  have R3 := Lib.hid r3
  have HGR := Lib.hid hg
  clear r1 r2 r3 hg
  go_enter Tryd.func26, Tryd.ntmps26
  go_wp2_with (refine wpList_load_row _ rfl _ _ rfl G 44 (wordsV s) _ rfl R1.out Tryd.underlying44 rfl (by rw [HWV.out]; kernel_rfl) ?_)
  clear hG
  go_loopw [7] (fun i W => ∃ k : Nat, k ≤ 8 ∧ i = .int .i64 k ∧ Row W (G + 1) 24 (noughts8 32) ∧ Row W (G + 1 + 1) 24 (bytesV (told (s.take k)) ++ noughts8 (32 - 4 * k)) ∧ w.grownBy W none) (fun i _ => 8 - (intOf i).toNat)
  case atStart => exact ⟨0, Nat.zero_le _, rfl, R2.out, R3.out, HGR.out⟩
  case round =>
    clear R1 R2 R3 HGR
    obtain ⟨k, hk, rfl, r2, r3, hgr⟩ := hrel
    have R2 := Lib.hid r2
    have R3 := Lib.hid r3
    have HGR := Lib.hid hgr
    by_cases hlt : k < 8
    · have hidx := HI.out k hlt
      have hsl := HS.out
      have hpl : (bytesV (told (s.take k))).length = 4 * k := by rw [bytesV_len, told_len, List.length_take]; omega
      have at_ : ∀ j, j < 4 → ((bytesV (told (s.take k))) ++ noughts8 (32 - 4 * k))[4 * k + j]? = some (.int .u8 0) := fun j hj => by
        rw [List.getElem?_append_right (by omega), hpl]
        simp only [noughts8, List.getElem?_replicate]
        rw [if_pos (by omega)]
      have c0 : wr.cell? ⟨G + 1 + 1, 4 * k, none⟩ = some (.int .u8 0) := r3.cell (at_ 0 (by decide))
      have c1 := r3.cell (at_ 1 (by decide))
      have c2 := r3.cell (at_ 2 (by decide))
      have c3 := r3.cell (at_ 3 (by decide))
      have d1 : ∀ v, (wr.setCell ⟨G + 1 + 1, 4 * k, none⟩ v).cell? ⟨G + 1 + 1, 4 * k + 1, none⟩ = some (.int .u8 0) := fun v => by
        rw [cell_set_other _ _ _ _ _ (by omega), c1]
      have d2 : ∀ v u, ((wr.setCell ⟨G + 1 + 1, 4 * k, none⟩ v).setCell ⟨G + 1 + 1, 4 * k + 1, none⟩ u).cell? ⟨G + 1 + 1, 4 * k + 2, none⟩ = some (.int .u8 0) := fun v u => by
        rw [cell_set_other _ _ _ _ _ (by omega), cell_set_other _ _ _ _ _ (by omega), c2]
      have d3 : ∀ v u t, (((wr.setCell ⟨G + 1 + 1, 4 * k, none⟩ v).setCell ⟨G + 1 + 1, 4 * k + 1, none⟩ u).setCell ⟨G + 1 + 1, 4 * k + 2, none⟩ t).cell? ⟨G + 1 + 1, 4 * k + 3, none⟩ = some (.int .u8 0) := fun v u t => by
        rw [cell_set_other _ _ _ _ _ (by omega), cell_set_other _ _ _ _ _ (by omega), cell_set_other _ _ _ _ _ (by omega), c3]
      have f0 := r3.frozen (4 * k)
      have f1 := r3.frozen (4 * k + 1)
      have f2 := r3.frozen (4 * k + 2)
      have f3 := r3.frozen (4 * k + 3)
      have HTS := Lib.hid (told_succ s k (by rw [hsl]; exact hlt))
      have HTB := Lib.hid (told1_bytes (s.getD k 0))
      have HPL := Lib.hid hpl
      have hx := (s.getD k 0).isLt
      generalize s.getD k 0 = x at *
      clear r2 r3 hgr at_ hpl hsl
      go_wp2
      go_roundw
      case rel =>
        refine ⟨k + 1, by omega, by go_num, (((R2.out.other (by omega) _).other (by omega) _).other (by omega) _).other (by omega) _, ?_, grown_own (grown_own (grown_own (grown_own HGR.out (grown_set wr (G + 1 + 1) (4 * k) _) (by have := HG.out; omega)) (grown_set _ (G + 1 + 1) (4 * k + 1) _) (by have := HG.out; omega)) (grown_set _ (G + 1 + 1) (4 * k + 2) _) (by have := HG.out; omega)) (grown_set _ (G + 1 + 1) (4 * k + 3) _) (by have := HG.out; omega)⟩
        have h4 := set4 (bytesV (told (s.take k))) (32 - 4 * (k + 1)) (.int .u8 ((x.toNat : Int) / 16777216)) (.int .u8 ((x.toNat : Int) / 65536 % 256)) (.int .u8 ((x.toNat : Int) / 256 % 256)) (.int .u8 ((x.toNat : Int) % 256)) (.int .u8 0)
        rw [HPL.out, show 32 - 4 * (k + 1) + 4 = 32 - 4 * k by omega] at h4
        rw [HTS.out, bytesV_app, HTB.out]
        unfold noughts8
        rw [← h4]
        exact (((R3.out.set (4 * k) _).set (4 * k + 1) _).set (4 * k + 2) _).set (4 * k + 3) _
      case measure => simp [intOf]; omega
    · have h8 : bytesV (told (s.take k)) ++ noughts8 (32 - 4 * k) = bytesV (told s) := by
        have hs := HS.out
        rw [show k = 8 by omega, List.take_of_length_le (by omega)]
        simp [noughts8]
      rw [h8] at R3
      have HL := Lib.hid (show (bytesV (told s)).length = 32 by rw [bytesV_len, told_len, HS.out])
      have HO := Lib.hid (fun x hx => bytesV_one (told s) x hx)
      clear r2 r3 hgr h8 HI
      generalize bytesV (told s) = xs at *
      go_wp2_with (first
        | refine wpList_load_row _ rfl _ _ rfl (G + 1 + 1) 24 xs _ rfl R3.out Tryd.underlying24 rfl (by rw [HL.out]; kernel_rfl) ?_
        | (refine wpList_store_row _ rfl rfl _ _ _ rfl (G + 1) 24 _ xs rfl rfl R2.out (by rw [HL.out]; rfl) HO.out (by rw [HL.out]; kernel_rfl) ?_; intro w2 hr2 hg2))
      refine bodyPost_ret (v := .agg xs.toArray) ?_ rfl ⟨rfl, grown_own HGR.out hg2 (by have := HG.out; omega)⟩
      exact results_row Tryd.results26 (G + 1) 24 xs _ rfl hr2 Tryd.underlying24 rfl (by rw [HL.out]; kernel_rfl)
end Go.Proofs.YtmhcfbfdbminnaaDoor
