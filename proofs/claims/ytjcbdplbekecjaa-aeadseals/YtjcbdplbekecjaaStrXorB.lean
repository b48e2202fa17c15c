/-
  stream.xorBlock over this program: bytes xored with a block, as far as it goes.
-/
import Derived.Test.YtjcbdplbekecjaaStrBlock
import Derived.Test.YtjcbdplbekecjaaAppBytes
namespace Go.Proofs.Ytjcbdplbekecjaa
open Go.RowKit

/-- From place o on, k bytes are xored with those of a block. -/
def mix (L : List UInt8) (o k : Nat) (b : List UInt8) : List UInt8 := (List.range L.length).map fun i => if o ≤ i ∧ i < o + k then L.getD i 0 ^^^ b.getD (i - o) 0 else L.getD i 0
theorem mix_len (L : List UInt8) (o k : Nat) (b : List UInt8) : (mix L o k b).length = L.length := by simp [mix]
theorem mix_at (L : List UInt8) (o k : Nat) (b : List UInt8) (i : Nat) (h : i < L.length) : (mix L o k b)[i]? = some (if o ≤ i ∧ i < o + k then L.getD i 0 ^^^ b.getD (i - o) 0 else L.getD i 0) := by simp [mix, h]
theorem mix_zero (L : List UInt8) (o : Nat) (b : List UInt8) : mix L o 0 b = L := by
  apply List.ext_getElem?
  intro i
  by_cases h : i < L.length
  · rw [mix_at _ _ _ _ _ h, if_neg (by omega)]
    simp [List.getElem?_eq_getElem h]
  · rw [List.getElem?_eq_none (by rw [mix_len]; omega), List.getElem?_eq_none (by omega)]
theorem mix_succ (L : List UInt8) (o k : Nat) (b : List UInt8) (h : o + k < L.length) : (mix L o k b).set (o + k) (L.getD (o + k) 0 ^^^ b.getD k 0) = mix L o (k + 1) b := by
  apply List.ext_getElem?
  intro i
  by_cases hi : i < L.length
  · rw [List.getElem?_set, mix_at _ _ _ _ _ hi, mix_at _ _ _ _ _ hi, mix_len]
    by_cases he : o + k = i
    · subst he
      rw [if_pos rfl, if_pos h, if_pos (by omega), show o + k - o = k by omega]
    · rw [if_neg he]
      by_cases h1 : o ≤ i ∧ i < o + k
      · rw [if_pos h1, if_pos (by omega)]
      · rw [if_neg h1, if_neg (by omega)]
  · rw [List.getElem?_eq_none (by simp [mix_len]; omega), List.getElem?_eq_none (by rw [mix_len]; omega)]
theorem mix_next (L : List UInt8) (o k : Nat) (b : List UInt8) (h : o + k < L.length) : (mix L o k b).getD (o + k) 0 = L.getD (o + k) 0 := by
  rw [List.getD_eq_getElem?_getD, mix_at _ _ _ _ _ h, if_neg (by omega)]
  rfl
theorem add_at (g o k : Nat) : (⟨g, o, none⟩ : Addr).add k = ⟨g, o + k, none⟩ := by unfold Addr.add; split <;> simp_all
/-- What xorBlock leaves. -/
def Xored (g o k : Nat) (t : TypeId) (L b : List UInt8) (w : World) (e : Ending) (w' : World) : Prop :=
  e = .returned (.int .i64 (k : Int)) ∧ w.grownBy w' (some g) ∧ Row w' g t (bytesV (mix L o k b))

set_option maxHeartbeats 4000000 in
theorem xorBlock_short (L b : List UInt8) (hb : b.length = 64) (g o n c : Nat) (t : TypeId) (w : World) (hr : Row w g t (bytesV L)) (ho : o + n ≤ L.length) (hn : n ≤ 1000000000000000) (hK : n ≤ 64) :
    Calls Try.prog 23 #[.slice (some ⟨g, o, none⟩) n c, .agg (bytesV b).toArray] w (Xored g o n t L b w) := by
  generalize hG : w.heap.size = G
  have HLT := Lib.hid (hG ▸ hr.lt)
  have HG := Lib.hid hG
  have HB := Lib.hid hb
  have HO := Lib.hid ho
  have HR0 := Lib.hid (hr.alloc (.cells (bytesV b).toArray 49))
  have HR1 := Lib.hid (Row.newAt w 49 (bytesV b) hG)
  have HGR := Lib.hid (grown_alloc (grown_refl w (some g)) (.cells (bytesV b).toArray 49))
  clear hb hr ho
  go_enter Try.func23, Try.ntmps23
  go_wp2
  clear hG
  go_loopw [11] (fun i W => ∃ k : Nat, k ≤ n ∧ i = .int .i64 k ∧ Row W g t (bytesV (mix L o k b)) ∧ Row W G 49 (bytesV b) ∧ w.grownBy W (some g)) (fun i _ => n - (intOf i).toNat)
  case atStart => exact ⟨0, Nat.zero_le _, rfl, by rw [mix_zero]; exact HR0.out, HR1.out, HGR.out⟩
  case round =>
    clear HR0 HR1 HGR
    obtain ⟨k, hk, rfl, r0, r1, hgr⟩ := hrel
    by_cases hlt : k < n
    · have hlen : o + k < L.length := by have := HO.out; omega
      have hs := mix_succ L o k b hlen
      have c0 := r0.cell (bytesV_at (mix L o k b) (o + k) (by rw [mix_len]; exact hlen))
      rw [mix_next L o k b hlen] at c0
      have c1 := r1.cell (bytesV_at b k (by rw [HB.out]; omega))
      have f0 := r0.frozen (o + k)
      have hx := xor8 (L.getD (o + k) 0) (b.getD k 0)
      have had := add_at g o k
      have HS := Lib.hid hs
      have HX := Lib.hid hx
      have R0 := Lib.hid r0
      have R1 := Lib.hid r1
      have HGR := Lib.hid hgr
      have b0 := UInt8.toNat_lt (L.getD (o + k) 0)
      have b1 := UInt8.toNat_lt (b.getD k 0)
      clear hs hx r0 r1 hgr
      generalize L.getD (o + k) 0 = x at *
      generalize b.getD k 0 = y at *
      go_wp2
      go_region
      go_wp2
      rw [HX.out]
      go_roundw
      case rel =>
        refine ⟨k + 1, by omega, by go_num, ?_, R1.out.other (by have := HLT.out; omega) _, grown_drew (HGR.out.trans (grown_set _ g (o + k) _))⟩
        rw [← HS.out, ← bytesV_set]
        exact R0.out.set (o + k) _
      case measure => simp [intOf]; omega
    · obtain rfl : k = n := by omega
      have R0 := Lib.hid r0
      have HGR := Lib.hid hgr
      clear r0 r1 hgr
      go_wp2
      go_ret
      exact ⟨rfl, HGR.out, R0.out⟩

set_option maxHeartbeats 4000000 in
theorem xorBlock_long (L b : List UInt8) (hb : b.length = 64) (g o n c : Nat) (t : TypeId) (w : World) (hr : Row w g t (bytesV L)) (ho : o + n ≤ L.length) (hn : n ≤ 1000000000000000) (hK : 64 < n) :
    Calls Try.prog 23 #[.slice (some ⟨g, o, none⟩) n c, .agg (bytesV b).toArray] w (Xored g o 64 t L b w) := by
  generalize hG : w.heap.size = G
  have HLT := Lib.hid (hG ▸ hr.lt)
  have HG := Lib.hid hG
  have HB := Lib.hid hb
  have HO := Lib.hid ho
  have HR0 := Lib.hid (hr.alloc (.cells (bytesV b).toArray 49))
  have HR1 := Lib.hid (Row.newAt w 49 (bytesV b) hG)
  have HGR := Lib.hid (grown_alloc (grown_refl w (some g)) (.cells (bytesV b).toArray 49))
  clear hb hr ho
  go_enter Try.func23, Try.ntmps23
  go_wp2
  clear hG
  go_loopw [11] (fun i W => ∃ k : Nat, k ≤ 64 ∧ i = .int .i64 k ∧ Row W g t (bytesV (mix L o k b)) ∧ Row W G 49 (bytesV b) ∧ w.grownBy W (some g)) (fun i _ => 64 - (intOf i).toNat)
  case atStart => exact ⟨0, Nat.zero_le _, rfl, by rw [mix_zero]; exact HR0.out, HR1.out, HGR.out⟩
  case round =>
    clear HR0 HR1 HGR
    obtain ⟨k, hk, rfl, r0, r1, hgr⟩ := hrel
    by_cases hlt : k < 64
    · have hlen : o + k < L.length := by have := HO.out; omega
      have hs := mix_succ L o k b hlen
      have c0 := r0.cell (bytesV_at (mix L o k b) (o + k) (by rw [mix_len]; exact hlen))
      rw [mix_next L o k b hlen] at c0
      have c1 := r1.cell (bytesV_at b k (by rw [HB.out]; omega))
      have f0 := r0.frozen (o + k)
      have hx := xor8 (L.getD (o + k) 0) (b.getD k 0)
      have had := add_at g o k
      have HS := Lib.hid hs
      have HX := Lib.hid hx
      have R0 := Lib.hid r0
      have R1 := Lib.hid r1
      have HGR := Lib.hid hgr
      have b0 := UInt8.toNat_lt (L.getD (o + k) 0)
      have b1 := UInt8.toNat_lt (b.getD k 0)
      clear hs hx r0 r1 hgr
      generalize L.getD (o + k) 0 = x at *
      generalize b.getD k 0 = y at *
      go_wp2
      go_region
      go_wp2
      rw [HX.out]
      go_roundw
      case rel =>
        refine ⟨k + 1, by omega, by go_num, ?_, R1.out.other (by have := HLT.out; omega) _, grown_drew (HGR.out.trans (grown_set _ g (o + k) _))⟩
        rw [← HS.out, ← bytesV_set]
        exact R0.out.set (o + k) _
      case measure => simp [intOf]; omega
    · obtain rfl : k = 64 := by omega
      have R0 := Lib.hid r0
      have HGR := Lib.hid hgr
      clear r0 r1 hgr
      go_wp2
      go_ret
      exact ⟨rfl, HGR.out, R0.out⟩

theorem xorBlock_any (L b : List UInt8) (hb : b.length = 64) (g o n c : Nat) (t : TypeId) (w : World) (hr : Row w g t (bytesV L)) (ho : o + n ≤ L.length) (hn : n ≤ 1000000000000000) :
    Calls Try.prog 23 #[.slice (some ⟨g, o, none⟩) n c, .agg (bytesV b).toArray] w (Xored g o (min n 64) t L b w) := by
  by_cases h : n ≤ 64
  · rw [Nat.min_eq_left h]
    exact xorBlock_short L b hb g o n c t w hr ho hn h
  · rw [Nat.min_eq_right (by omega)]
    exact xorBlock_long L b hb g o n c t w hr ho hn (by omega)
end Go.Proofs.Ytjcbdplbekecjaa
