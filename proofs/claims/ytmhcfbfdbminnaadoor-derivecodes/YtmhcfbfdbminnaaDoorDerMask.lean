/-
  derive.masked, derive.at and derive.Same over this program.
-/
import Derived.Test.YtmhcfbfdbminnaaDoorDigOne
import Derived.Test.YtmhcfbfdbminnaaDoorHmac
namespace Go.Proofs.YtmhcfbfdbminnaaDoor
open Go.RowKit

theorem Row.rds {w : World} {g : Nat} {t : TypeId} {cs : List Value} (h : Row w g t cs) (n c : Nat) (hn : cs.length = n) (hc : n ≤ c) (hm : c ≤ maxLen) : Rd w (.slice (some ⟨g, 0, none⟩) n c) cs := by
  subst hn
  refine ⟨_, c, rfl, hc, hm, fun _ => ⟨_, rfl, fun j u hu => ?_⟩⟩
  have : (⟨g, 0, none⟩ : Addr).add j = ⟨g, j, none⟩ := by unfold Addr.add; split <;> simp_all
  rw [this]
  exact h.cell hu

/-- A row whose first k bytes are masked. -/
def masks (m : UInt8) (b : List UInt8) (k : Nat) : List UInt8 := (mask m b).take k ++ b.drop k
theorem masks_at (m : UInt8) (b : List UInt8) (k : Nat) (h : k < b.length) : (bytesV (masks m b k))[k]? = some (.int .u8 ((b[k]).toNat : Int)) := by
  unfold masks bytesV
  rw [List.getElem?_map, List.getElem?_append_right (by rw [List.length_take, mask_len]; omega), List.length_take, mask_len, Nat.min_eq_left (by omega), Nat.sub_self, List.getElem?_drop, Nat.add_zero, List.getElem?_eq_getElem h]
  rfl
theorem masks_set (m : UInt8) (b : List UInt8) (k : Nat) (h : k < b.length) : (bytesV (masks m b k)).set k (.int .u8 ((b[k] ^^^ m).toNat : Int)) = bytesV (masks m b (k + 1)) := by
  have hl : ((mask m b).take k).length = k := by rw [List.length_take, mask_len]; omega
  have hm : k < (mask m b).length := by rw [mask_len]; exact h
  have e : (masks m b k).set k (b[k] ^^^ m) = masks m b (k + 1) := by
    unfold masks
    rw [List.set_append_right _ _ (by omega), hl, Nat.sub_self, List.drop_eq_getElem_cons h, List.set_cons_zero, List.take_succ_eq_append_getElem hm]
    simp [mask]
  rw [← e]
  simp [bytesV, byteV, List.map_set]

theorem slice_arr64 (g : Nat) (w : World) : (Instr.sliceAt 34 (.pointer (some ⟨g, 0, none⟩)) none none none).run Tryd.prog w = .ok (.slice (some ⟨g, 0, none⟩) 64 64) w := by
  simp [Instr.sliceAt, go_sem, Instr.sliceBounds, Addr.add]

set_option maxHeartbeats 4000000 in
theorem masked_any (b : List UInt8) (hb : b.length = 64) (m : UInt8) (w : World) :
    Calls Tryd.prog 19 #[.agg (bytesV b).toArray, .int .u8 (m.toNat : Int)] w (Out w (mask m b)) := by
  have HB := Lib.hid hb
  generalize hG : w.heap.size = G
  have HG := Lib.hid hG
  have R0 := Lib.hid (Row.newAt w 34 (bytesV b) hG)
  have HG0 := Lib.hid (grown_alloc (grown_refl w none) (.cells (bytesV b).toArray 34))
  clear hb
  go_enter Tryd.func19, Tryd.ntmps19
  go_wp2
  generalize hW : w.alloc (.cells (bytesV b).toArray 34) = W at *
  clear hW hG
  go_loopw [6] (fun i W => ∃ k : Nat, k ≤ 64 ∧ i = .int .i64 k ∧ Row W G 34 (bytesV (masks m b k)) ∧ w.grownBy W none) (fun i _ => 64 - (intOf i).toNat)
  case atStart => exact ⟨0, Nat.zero_le _, rfl, R0.out, HG0.out⟩
  case round =>
    clear R0 HG0
    obtain ⟨k, hk, rfl, r1, hgr⟩ := hrel
    have R1 := Lib.hid r1
    have HGR := Lib.hid hgr
    by_cases hlt : k < 64
    · have hkb : k < b.length := by rw [HB.out]; exact hlt
      have hc := r1.cell (masks_at m b k hkb)
      have hf := r1.frozen k
      have hm := masks_set m b k hkb
      have HX := Lib.hid (xor8 b[k] m)
      generalize b[k] = x at *
      have HM := Lib.hid hm
      clear r1 hgr hm hkb
      go_wp2
      rw [HX.out]
      go_roundw
      case rel =>
        refine ⟨k + 1, by omega, by go_num, ?_, grown_own HGR.out (grown_set wr G k _) (by have := HG.out; omega)⟩
        rw [← HM.out]
        exact R1.out.set k _
      case measure => simp [intOf]; omega
    · have h8 : masks m b k = mask m b := by
        have hs := HB.out
        rw [show k = 64 by omega]
        unfold masks
        rw [List.take_of_length_le (by rw [mask_len]; omega), List.drop_of_length_le (by omega), List.append_nil]
      rw [h8] at R1
      have hsl := slice_arr64 G
      clear r1 hgr h8
      go_wp2
      go_ret
      exact ⟨_, rfl, R1.out.rds 64 64 (by rw [bytesV_len, mask_len, HB.out]) (by decide) (by decide), HGR.out, fun b hb => by
        simp [Value.ownBlock] at hb
        have h1 := HG.out
        have h2 := R1.out.lt
        omega⟩
end Go.Proofs.YtmhcfbfdbminnaaDoor
