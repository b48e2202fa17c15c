/-
  coder's Writer's Even over this program.
-/
import Derived.Test.YtohndlfekecfoaaCodBit
import Derived.Test.YtohndlfekecfoaaCodNum
namespace Go.Proofs.Ytohndlfekecfoaa
set_option maxRecDepth 1000000
open Go.RowKit

set_option maxHeartbeats 400000 in
theorem isEven_yes (B : Nat) (h : B ≤ 32) (w : World) : Calls Try.prog 26 #[.int .i64 (B : Int)] w (SameW (.bool true) w) := by
  have h1 : decide ((B : Int) ≤ 32) = true := by simp; omega
  have h0 : decide (0 ≤ (B : Int)) = true := by simp
  go_enter Try.func26, Try.ntmps26
  go_wp2
  go_ret
  exact ⟨rfl, rfl⟩
set_option maxHeartbeats 400000 in
theorem isEven_no (q : Int) (h : q < 0 ∨ 32 < q) (w : World) : Calls Try.prog 26 #[.int .i64 q] w (SameW (.bool false) w) := by
  by_cases h0 : q < 0
  · have h1 : decide (0 ≤ q) = false := by simp; omega
    go_enter Try.func26, Try.ntmps26
    go_wp2
    go_ret
    exact ⟨rfl, rfl⟩
  · have h1 : decide (0 ≤ q) = true := by simp; omega
    have h2 : decide (q ≤ 32) = false := by simp; omega
    go_enter Try.func26, Try.ntmps26
    go_wp2
    go_ret
    exact ⟨rfl, rfl⟩

set_option maxHeartbeats 4000000 in
theorem even_at (g : Nat) (vb : Option Nat) (s : Cst) (n : Int) (B : Nat) (w : World) (h : Wt w g vb s) (hs : Okc s) (hl : s.out.length ≤ 800000000) (hB : B ≤ 32) (hn : -9223372036854775808 ≤ n ∧ n ≤ 9223372036854775807) :
    Calls Try.prog 11 #[.pointer (some ⟨g, 0, none⟩), .int .i64 n, .int .i64 (B : Int)] w (WOut g vb (evenS s n B) w) := by
  have HW := Lib.hid h
  have HS := Lib.hid hs
  have HL := Lib.hid hl
  have HB := Lib.hid hB
  have HBG := Lib.hid (begun_at g vb s w h)
  rw [show decide (0 < s.width) = true by have := hs.wide; simp; omega] at HBG
  have HIE := Lib.hid (isEven_yes B hB w)
  clear h hs hl
  go_enter Try.func11, Try.ntmps11
  go_wp2_with fail
  refine HBG.out.mono ?_
  rintro e w1 ⟨rfl, hw1⟩
  obtain rfl := hw1.symm
  go_wp2_with fail
  refine HIE.out.mono ?_
  rintro e w1 ⟨rfl, hw1⟩
  obtain rfl := hw1.symm
  go_wp2
  go_loopw [16] (fun i W => ∃ (k : Nat) (S : Cst) (vb' : Option Nat), k ≤ B ∧ i = .int .i64 k ∧ Okc S ∧ S.out.length ≤ s.out.length + k ∧ evenS S n (B - k) = evenS s n B ∧ Wt W g vb' S ∧ Wn [g] w vb W vb') (fun i _ => B - (intOf i).toNat)
  case atStart => exact ⟨0, s, vb, Nat.zero_le _, rfl, HS.out, Nat.le_refl _, rfl, HW.out, Wn.refl _ _ _⟩
  case round =>
    obtain ⟨k, S, vb', hk, rfl, hok, hlen, hev, hwt, hwn⟩ := hrel
    have HH := Lib.hid (And.intro hok (And.intro hlen (And.intro hev (And.intro hwt hwn))))
    by_cases hlt : k < B
    · have hd : decide ((k : Int) < (B : Int)) = true := by simp; omega
      obtain ⟨v, hrow, _⟩ := hwt
      have r2 := hrow.cell (j := 2) rfl
      have r2d : wr.drew.cell? ⟨g, 2, none⟩ = some (.int .u32 (S.width : Int)) := r2
      obtain ⟨kk, hkk⟩ : ∃ kk, kk = B - 1 - k := ⟨_, rfl⟩
      have hw0 : IntKind.u32.wrap ((S.width : Int) / 2) = ((S.width / 2 : Nat) : Int) := by
        have := hok.most
        rw [IntKind.wrap_u32]; omega
      have hw1 : IntKind.i64.wrap ((B : Int) - 1) = (B : Int) - 1 := by rw [IntKind.wrap_i64]; omega
      have hw2 : IntKind.i64.wrap ((B : Int) - 1 - (k : Int)) = (kk : Int) := by rw [IntKind.wrap_i64]; omega
      have hw3 : IntKind.i64.wrap (n / 2 ^ kk) = n / 2 ^ kk := by
        have := div_in n kk hn
        rw [IntKind.wrap_i64]; omega
      have HPUT := Lib.hid (fun W (hW : Wt W g vb' S) => put_at g vb' S (S.width / 2) (bits .and .i64 (n / 2 ^ kk) 1) W hW hok (even_ok hok) (by have := HL.out; have := HB.out; omega))
      rw [bit_ne n kk, show ((S.width / 2 : Nat) : Int) = (S.width : Int) / 2 from Int.natCast_ediv _ _] at HPUT
      have HEV := Lib.hid (show evenS (putS S (S.width / 2) (bitAt n kk)) n kk = evenS s n B by
        rw [show B - k = kk + 1 by omega] at hev
        exact hev)
      have HMIN := Lib.hid (show min kk 64 = kk by omega)
      have HK1 := Lib.hid (show B - (k + 1) = kk by omega)
      have HNX := Lib.hid (show Okc (putS S (S.width / 2) (bitAt n kk)) ∧ (putS S (S.width / 2) (bitAt n kk)).out.length ≤ s.out.length + (k + 1) from ⟨putS_ok hok (even_ok hok), by have := putS_len S (S.width / 2) (bitAt n kk); omega⟩)
      generalize putS S (S.width / 2) (bitAt n kk) = S1 at *
      clear hok hlen hev hwn hrow HBG HIE hkk
      go_wp2
      refine wp_region_still_tail 13 (by kernel_rfl) (by kernel_rfl) ?_
      change wpStill _ _ wr.drew (fun a' => wpList _ _ _ _ a' wr.drew) _ _
      generalize hW4 : wr.drew = W4 at *
      simp only [List.take_succ_cons, List.take_zero, List.drop_succ_cons, List.drop_zero]
      repeat still_step
      refine wpStill_nil ?_
      go_wp2_with fail
      rw [HMIN.out]
      refine (HPUT.out W4 (by rw [← hW4]; exact HH.out.2.2.2.1)).mono ?_
      rintro e w2 ⟨rfl, vb2, ht2, hn2⟩
      have HT2 := Lib.hid ht2
      have HN2 := Lib.hid (HH.out.2.2.2.2.trans (show Wn [g] wr vb' w2 vb2 by rw [← hW4] at hn2; exact ⟨hn2.os, hn2.tape, hn2.output, hn2.size, hn2.block, hn2.row⟩))
      clear ht2 hn2 hW4 r2 r2d
      go_wp2
      go_roundw
      case rel => exact ⟨k + 1, S1, vb2, by omega, by go_num, HNX.out.1, HNX.out.2, by rw [HK1.out]; exact HEV.out, HT2.out, HN2.out⟩
      case measure => simp only [intOf]; omega
    · obtain rfl : k = B := by omega
      clear hok hlen hev hwt hwn
      go_wp2
      refine bodyPost_end (results_none rfl _ _ _) rfl ?_
      obtain ⟨h1, h2, h3, h4, h5⟩ := HH.out
      rw [Nat.sub_self] at h3
      rw [← h3]
      exact ⟨rfl, vb', h4, h5⟩
end Go.Proofs.Ytohndlfekecfoaa
