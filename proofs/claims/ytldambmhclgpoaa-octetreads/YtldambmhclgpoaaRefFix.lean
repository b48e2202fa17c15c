/-
  The document's own answers for layer 1: ReadFixed, End, over this program.
-/
import Derived.Test.YtldambmhclgpoaaRefTake
namespace Go.Proofs.Ytldambmhclgpoaa
open Go.RowKit

theorem fix_x (l : List UInt8) (x k : Int) (hx : x ≠ 0) : fixOf l x k = (0, l, x) := by
  unfold fixOf
  split
  · have : takeOf l x k.toNat = ([], l, x) := by unfold takeOf; rw [if_neg hx]
    rw [this]
    rfl
  · have : failOf x 3 = x := by unfold failOf; rw [if_neg hx]
    rw [this]

theorem wrap_u64_nat (n : Nat) : IntKind.u64.wrap (n : Int) = ((n % 18446744073709551616 : Nat) : Int) := by
  rw [IntKind.wrap_u64]; omega

set_option maxHeartbeats 2000000 in
set_option maxRecDepth 100000 in
theorem refReadFixed_any (v : Value) (l : List UInt8) (x k : Int) (w : World) (hv : Rd w v (bytesV l)) :
    Calls Try.prog 22 #[.agg #[v, .int .i64 x], .int .i64 k] w (StOut w v (fixOf l x k).2.1 (fixOf l x k).2.2 (.int .u64 (fixOf l x k).1)) := by
  have HV := hv
  obtain ⟨A, c, rfl⟩ := hv.form
  rw [bytesV_len] at HV ⊢
  clear hv
  have hgg := grown_alloc (grown_alloc (grown_refl w none) (.cells #[.slice A l.length c, .int .i64 x] 37))
  by_cases hx : x = 0
  · subst hx
    by_cases hk : okWidth k = true
    · have hk2 : 0 ≤ k ∧ k ≤ 8 := by simpa [okWidth] using hk
      obtain ⟨n, rfl⟩ := Int.eq_ofNat_of_zero_le hk2.1
      have hn8 : n ≤ 8 := by omega
      have hF : fixOf l 0 (n : Int) = (val (takeOf l 0 n).1, (takeOf l 0 n).2) := by unfold fixOf; rw [hk, Int.toNat_natCast]; rfl
      rw [hF]
      obtain ⟨⟨o, l2, x2⟩, hq⟩ : ∃ q, takeOf l 0 n = q := ⟨_, rfl⟩
      have hL2 := takeOf_len2 l 0 n
      have hL3 : (takeOf l 0 n).1.length ≤ 8 := by
        unfold takeOf
        rw [if_pos rfl]
        split <;> simp
        omega
      have hT := refTake_any (.slice A l.length c) l 0 n _ (HV.grown0 (hgg (.cells #[.slice none 0 0, .int .i64 0] 37)))
      rw [hq] at hL2 hL3 hT ⊢
      simp only at hL2 hL3
      have HT := Lib.hid hT
      have HG0 := Lib.hid (hgg (.cells #[.slice none 0 0, .int .i64 0] 37))
      have HL2 : Hid (l2.length ≤ l.length) := hL2
      clear hF hq hT hgg hL2 hk hk2
      have hk0 : decide ((n : Int) < 0) = false := by simp
      have hk8 : decide (8 < (n : Int)) = false := by simp; omega
      go_enter Try.func22, Try.ntmps22
      go_wp2_with fail
      refine HT.out.mono ?_
      rintro e w1 ⟨v1, u1, rfl, hr1, hu1, hb1, hbu, hg1⟩
      have hF : w.grownBy w1 none := HG0.out.trans hg1
      have hB1 : w1.heap[w.heap.size + 1]? = some (.cells #[.slice none 0 0, .int .i64 0] 37 (0, 0)) := by
        rw [hg1.block _ (by simp) (by simp)]
        exact heap_second _ _ _
      have hBlt : w.heap.size + 1 < w1.heap.size := by have := hg1.size; simp at this; omega
      have HR1 := hr1
      obtain ⟨A1, c1, rfl⟩ := hr1.form
      have HU1 := hu1
      obtain ⟨A3, c3, rfl⟩ := hu1.form
      have hol := bytesV_len o
      generalize (bytesV o).length = m at *
      have HM := Lib.hid hol
      have hm8 : m ≤ 8 := by omega
      clear hol hL3
      have hg2 : w1.grownBy (w1.alloc (.cells #[.slice A1 (bytesV l2).length c1, .int .i64 x2] 37)) none := grown_alloc (grown_refl _ _) _
      have HU2 := HU1.grown0 hg2
      obtain ⟨_, hm3, hm4⟩ := HU2.len
      clear hm4
      have HB1 := Lib.hid hB1
      clear hB1
      go_wp2
      go_loop [8, 9, 10] (fun a p t => ∃ (j pw : Nat), j ≤ m ∧ t = .int .i64 j ∧ a = .int .u64 (val (o.take j)) ∧ p = .int .u64 pw ∧ (j < 8 → pw = 256 ^ j)) (fun _ _ t => m - (intOf t).toNat)
      case atStart => exact ⟨0, 1, Nat.zero_le _, rfl, rfl, rfl, fun _ => by simp⟩
      case round =>
        obtain ⟨j, pw, hj, rfl, rfl, rfl, hpw⟩ := hrel
        by_cases hlt : j < m
        · obtain ⟨ad, y, rfl, hd, hck⟩ := HU2.at_ (k := j) (by rw [← HM.out]; exact hlt)
          have hts := take_of_drop hd
          have hb : y.toNat < 256 := UInt8.toNat_lt _
          have hvs := val_snoc (o.take j) y
          rw [← hts] at hvs
          have hvl := val_lt (o.take j)
          have hlj : (o.take j).length = j := by rw [List.length_take, ← HM.out]; omega
          rw [hlj] at hvs hvl
          have hpw' := hpw (by omega)
          have hp7 : pw ≤ 256 ^ 7 := by rw [hpw']; exact Nat.pow_le_pow_right (by omega) (by omega)
          rw [← hpw'] at hvs hvl
          generalize val (o.take j) = acc at *
          obtain ⟨q, hq⟩ : ∃ q, q = y.toNat * pw := ⟨_, rfl⟩
          have hq2 : q ≤ 255 * pw := by rw [hq]; exact Nat.mul_le_mul_right _ (by omega)
          have hq3 : IntKind.u64.wrap ((y.toNat : Int) * (pw : Int)) = (q : Int) := by
            have e : (y.toNat : Int) * (pw : Int) = (q : Int) := by rw [hq]; push_cast; rfl
            rw [e, IntKind.wrap_u64]
            omega
          have hq4 : IntKind.u64.wrap ((acc : Int) + (q : Int)) = ((acc + q : Nat) : Int) := by rw [IntKind.wrap_u64]; omega
          rw [← hq] at hvs
          have HVS := Lib.hid hvs
          have HPW := Lib.hid hpw'
          have HQ3 := Lib.hid hq3
          have HQ4 := Lib.hid hq4
          have HP7 : Hid (pw ≤ 256 ^ 7) := hp7
          clear hvs hvl hts hd hlj hpw hpw' hq hq2 hq3 hq4 hp7
          go_wp2
          refine ⟨⟨j + 1, pw * 256 % 18446744073709551616, by omega, by go_num, ?_, ?_, fun h8 => ?_⟩, by simp [intOf]; omega⟩
          · rw [HQ3.out, HQ4.out, HVS.out]
          · rw [← wrap_u64_nat]; push_cast; rfl
          · rw [HPW.out, ← Nat.pow_succ]
            exact Nat.mod_eq_of_lt (Nat.lt_of_le_of_lt (Nat.pow_le_pow_right (by omega) (by omega : j + 1 ≤ 7)) (by decide))
        · have hjm : o.take j = o := List.take_of_length_le (by rw [← HM.out]; omega)
          rw [hjm]
          clear hjm hpw
          have hc0 : w1.cell? ⟨w.heap.size + 1, 0, none⟩ = some (.slice none 0 0) := by rw [cell_blk HB1.out]; rfl
          have hc1 : w1.cell? ⟨w.heap.size + 1, 1, none⟩ = some (.int .i64 0) := by rw [cell_blk HB1.out]; rfl
          have hf0 : w1.frozen? ⟨w.heap.size + 1, 0, none⟩ = false := froz_blk HB1.out
          have hf1 : w1.frozen? ⟨w.heap.size + 1, 1, none⟩ = false := froz_blk HB1.out
          have HR2 := HR1.grown0 hg2
          have hBf : (((w1.setCell ⟨w.heap.size + 1, 0, none⟩ (.slice A1 (bytesV l2).length c1)).setCell ⟨w.heap.size + 1, 1, none⟩ (.int .i64 x2)).alloc (.cells #[.slice A1 (bytesV l2).length c1, .int .i64 x2] 37)).heap[w.heap.size + 1]? = some (.cells #[.slice A1 (bytesV l2).length c1, .int .i64 x2] 37 (0, 0)) := by
            rw [Below.heap_alloc _ _ _ (by simp [World.setCell]; omega), row_set (row_set HB1.out 0 _) 1 _]
            rfl
          have hA0 := cell_blk (i := 0) hBf
          have hA1 := cell_blk (i := 1) hBf
          simp only [List.getElem?_toArray, List.getElem?_cons_zero, List.getElem?_cons_succ] at hA0 hA1
          have HA0 := Lib.hid hA0
          have HA1 := Lib.hid hA1
          clear hBf hA0 hA1
          go_wp2
          have hA0 := HA0.out
          have hA1 := HA1.out
          refine bodyPost_ret (v := .tuple #[.agg #[.slice A1 (bytesV l2).length c1, .int .i64 x2], .int .u64 (val o)]) (by simp [results, Try.results22, go_sem, hA0, hA1]) rfl ?_
          have hgL := grown_alloc (grown_set2 hF (g := w.heap.size + 1) (by omega) 0 1 (.slice A1 (bytesV l2).length c1) (.int .i64 x2)) (.cells #[.slice A1 (bytesV l2).length c1, .int .i64 x2] 37)
          refine ⟨_, rfl, ?_, hb1, hgL⟩
          refine (HR1.keepNe (w' := (w1.setCell ⟨w.heap.size + 1, 0, none⟩ (.slice A1 (bytesV l2).length c1)).setCell ⟨w.heap.size + 1, 1, none⟩ (.int .i64 x2)) fun hne b hb _ => ?_).grown0 (grown_alloc (grown_refl _ _) _)
          have hlo := HV.low (by rw [Ne, ← List.length_eq_zero_iff, bytesV_len, List.length_eq_zero_iff]; exact ne_of_len HL2.out (bytesV_ne hne)) b (hb1 b hb)
          rw [Below.heap_setCell _ _ _ _ (by simp; omega), Below.heap_setCell _ _ _ _ (by simp; omega)]
    · have hF : fixOf l 0 k = (0, l, 3) := by unfold fixOf; rw [if_neg hk]; rfl
      rw [hF]
      clear hF
      have hk2 : k < 0 ∨ 8 < k := by simp [okWidth] at hk; omega
      by_cases hk0 : k < 0
      · go_enter Try.func22, Try.ntmps22
        go_wp2
        refine bodyPost_ret (v := .tuple #[.agg #[.slice A l.length c, .int .i64 3], .int .u64 0]) (by simp [results, Try.results22, go_sem]) rfl ?_
        exact ⟨_, rfl, HV.grown0 (hgg _), fun b hb => hb, hgg _⟩
      · have hk0b : decide (k < 0) = false := by simpa using hk0
        have hk8 : 8 < k := by omega
        go_enter Try.func22, Try.ntmps22
        go_wp2
        refine bodyPost_ret (v := .tuple #[.agg #[.slice A l.length c, .int .i64 3], .int .u64 0]) (by simp [results, Try.results22, go_sem]) rfl ?_
        exact ⟨_, rfl, HV.grown0 (hgg _), fun b hb => hb, hgg _⟩
  · rw [fix_x l x k hx]
    have hx1 : (x != 0) = true := by simpa using hx
    go_enter Try.func22, Try.ntmps22
    go_wp2
    refine bodyPost_ret (v := .tuple #[.agg #[.slice A l.length c, .int .i64 x], .int .u64 0]) (by simp [results, Try.results22, go_sem]) rfl ?_
    exact ⟨_, rfl, HV.grown0 (hgg _), fun b hb => hb, hgg _⟩

set_option maxHeartbeats 1000000 in
theorem refEnd_any (v : Value) (l : List UInt8) (x : Int) (w : World) (hv : Rd w v (bytesV l)) :
    Calls Try.prog 25 #[.agg #[v, .int .i64 x]] w (fun e w' => e = .returned (.int .i64 (endOf l x)) ∧ w.grownBy w' none) := by
  have HV := hv
  obtain ⟨A, c, rfl⟩ := hv.form
  rw [bytesV_len] at HV ⊢
  clear hv
  have hgg := grown_alloc (grown_refl w none) (.cells #[.slice A l.length c, .int .i64 x] 37)
  by_cases hx : x = 0
  · subst hx
    by_cases hl : l = []
    · have he : endOf l 0 = 0 := by unfold endOf; rw [if_neg (fun h => h.2 hl)]
      rw [he]
      subst hl
      clear he
      go_enter Try.func25, Try.ntmps25
      go_wp2
      go_ret
      exact ⟨rfl, hgg⟩
    · have he : endOf l 0 = 5 := by unfold endOf; rw [if_pos ⟨rfl, hl⟩]
      rw [he]
      clear he
      have hp : 0 < l.length := List.length_pos_iff.2 hl
      go_enter Try.func25, Try.ntmps25
      go_wp2
      go_ret
      exact ⟨rfl, hgg⟩
  · have he : endOf l x = x := by unfold endOf; rw [if_neg (fun h => hx h.1)]
    rw [he]
    clear he
    have hx1 : (x == 0) = false := by simpa using hx
    go_enter Try.func25, Try.ntmps25
    go_wp2
    go_ret
    exact ⟨rfl, hgg⟩
end Go.Proofs.Ytldambmhclgpoaa
