/-
  coder's Writer's Tree over this program.
-/
import Derived.Test.YtohndlfekecfoaaCodEven
import Derived.Test.YtohndlfekecfoaaCodNum
namespace Go.Proofs.Ytohndlfekecfoaa
set_option maxRecDepth 1000000
open Go.RowKit

set_option maxHeartbeats 400000 in
theorem isTree_yes (A : Option Addr) (n c B : Nat) (h : B ≤ 16) (hn : 2 ^ B ≤ n) (w : World) : Calls Try.prog 27 #[.slice A n c, .int .i64 (B : Int)] w (SameW (.bool true) w) := by
  have h1 : decide ((B : Int) ≤ 16) = true := by simp; omega
  have h0 : decide (0 ≤ (B : Int)) = true := by simp
  have hmin : min B 64 = B := by omega
  have hp : (2 : Nat) ^ B ≤ 2 ^ 16 := Nat.pow_le_pow_right (by decide) h
  have hw := wrap_pow B (by omega)
  obtain ⟨m, hm⟩ : ∃ m, m = (2 : Nat) ^ B := ⟨_, rfl⟩
  rw [← hm] at hw hn
  have h2 : decide ((m : Int) ≤ (n : Int)) = true := by simp; omega
  have h3 : decide (m ≤ n) = true := by simp; omega
  clear hm hp
  go_enter Try.func27, Try.ntmps27
  go_wp2
  go_ret
  exact ⟨rfl, rfl⟩
set_option maxHeartbeats 400000 in
theorem isTree_few (A : Option Addr) (n c B : Nat) (h : B ≤ 16) (hn : n < 2 ^ B) (w : World) : Calls Try.prog 27 #[.slice A n c, .int .i64 (B : Int)] w (SameW (.bool false) w) := by
  have h1 : decide ((B : Int) ≤ 16) = true := by simp; omega
  have h0 : decide (0 ≤ (B : Int)) = true := by simp
  have hmin : min B 64 = B := by omega
  have hp : (2 : Nat) ^ B ≤ 2 ^ 16 := Nat.pow_le_pow_right (by decide) h
  have hw := wrap_pow B (by omega)
  obtain ⟨m, hm⟩ : ∃ m, m = (2 : Nat) ^ B := ⟨_, rfl⟩
  rw [← hm] at hw hn
  have h2 : decide ((m : Int) ≤ (n : Int)) = false := by simp; omega
  have h3 : decide (m ≤ n) = false := by simp; omega
  clear hm hp
  go_enter Try.func27, Try.ntmps27
  go_wp2
  go_ret
  exact ⟨rfl, rfl⟩
set_option maxHeartbeats 400000 in
theorem isTree_no (A : Option Addr) (n c : Nat) (q : Int) (h : q < 0 ∨ 16 < q) (w : World) : Calls Try.prog 27 #[.slice A n c, .int .i64 q] w (SameW (.bool false) w) := by
  by_cases h0 : q < 0
  · have h1 : decide (0 ≤ q) = false := by simp; omega
    go_enter Try.func27, Try.ntmps27
    go_wp2
    go_ret
    exact ⟨rfl, rfl⟩
  · have h1 : decide (0 ≤ q) = true := by simp; omega
    have h2 : decide (q ≤ 16) = false := by simp; omega
    go_enter Try.func27, Try.ntmps27
    go_wp2
    go_ret
    exact ⟨rfl, rfl⟩

set_option maxHeartbeats 4000000 in
theorem tree_at (g : Nat) (vb : Option Nat) (s : Cst) (gc : Nat) (t : TypeId) (l : List Nat) (m c : Nat) (n : Int) (B : Nat) (w : World) (h : Wt w g vb s) (hs : Okc s) (hl : s.out.length ≤ 800000000) (hr : Row w gc t (chV l)) (hm : l.length = m) (hok : Okl l) (hne : gc ≠ g ∧ vb ≠ some gc)
    (hB : B ≤ 16) (hBm : 2 ^ B ≤ m) (hm2 : m ≤ 131072) (hn : -9223372036854775808 ≤ n ∧ n ≤ 9223372036854775807) :
    Calls Try.prog 13 #[.pointer (some ⟨g, 0, none⟩), .slice (some ⟨gc, 0, none⟩) m c, .int .i64 n, .int .i64 (B : Int)] w (BOut g vb gc t (treeS s l n B 1) w) := by
  have HIT := Lib.hid (fun W => isTree_yes (some ⟨gc, 0, none⟩) m c B hB hBm W)
  have HW := Lib.hid h
  have HR := Lib.hid hr
  have HS := Lib.hid hs
  have HL := Lib.hid hl
  have HN := Lib.hid hne
  have HOK := Lib.hid hok
  have HM := Lib.hid hm
  have HBM := Lib.hid (show (1 + 1) * 2 ^ B ≤ 2 * m by omega)
  clear h hr hs hl hne hok hm hBm
  go_enter Try.func13, Try.ntmps13
  go_wp2_with fail
  refine (HIT.out _).mono ?_
  rintro e w1 ⟨rfl, hw1⟩
  obtain rfl := hw1.symm
  go_wp2
  go_loopw [8, 16] (fun pl i W => ∃ (k p : Nat) (S : Cst) (L : List Nat) (vb' : Option Nat), k ≤ B ∧ i = .int .i64 k ∧ pl = .int .i64 p ∧ p ≤ 300000 ∧ (Okc S ∧ Okl L ∧ L.length = m ∧ (p + 1) * 2 ^ (B - k) ≤ 2 * m ∧ S.out.length ≤ s.out.length + k) ∧ treeS S L n (B - k) p = treeS s l n B 1 ∧ (Wt W g vb' S ∧ Row W gc t (chV L) ∧ vb' ≠ some gc ∧ Wn [g, gc] w vb W vb')) (fun _ i _ => B - (intOf i).toNat)
  case atStart => exact ⟨0, 1, s, l, vb, Nat.zero_le _, rfl, rfl, by decide, ⟨HS.out, HOK.out, HM.out, HBM.out, Nat.le_refl _⟩, rfl, HW.out, HR.out, HN.out.2, Wn.refl _ _ _⟩
  case round =>
    obtain ⟨k, p, S, L, vb', hk, rfl, rfl, hp2, ho, htr, hh⟩ := hrel
    have HO := Lib.hid ho
    have HH := Lib.hid hh
    by_cases hlt : k < B
    · have hd : decide ((k : Int) < (B : Int)) = true := by simp; omega
      obtain ⟨kk, hkk⟩ : ∃ kk, kk = B - 1 - k := ⟨_, rfl⟩
      have hBk : B - k = kk + 1 := by omega
      have hpm := HO.out.2.2.2.1
      rw [hBk] at hpm
      have hpl : p < m := tree_lt hpm
      have hpi : (p : Int) < (m : Int) := by omega
      have hw1 : IntKind.i64.wrap ((B : Int) - 1) = (B : Int) - 1 := by rw [IntKind.wrap_i64]; omega
      have hw2 : IntKind.i64.wrap ((B : Int) - 1 - (k : Int)) = (kk : Int) := by rw [IntKind.wrap_i64]; omega
      have hw3 : IntKind.i64.wrap (n / 2 ^ kk) = n / 2 ^ kk := by
        have := div_in n kk hn
        rw [IntKind.wrap_i64]; omega
      have hmin : min kk 64 = kk := by omega
      have hand := bit_val n kk
      have hor := or_bit p (bitAt n kk) (by omega)
      have HBIT := Lib.hid (fun W (hW : Wt W g vb' S) (hR : Row W gc t (chV L)) => bit_at g vb' S gc p t L ((bitAt n kk).toNat : Int) W hW HO.out.1 (by have := HL.out; have := HO.out.2.2.2.2; omega) hR (by rw [HO.out.2.2.1]; exact hpl) HO.out.2.1 ⟨HN.out.1, HH.out.2.2.1⟩)
      rw [bit_dec] at HBIT
      have htr : treeS (bitS S L p (bitAt n kk)).1 (bitS S L p (bitAt n kk)).2 n kk (2 * p + (bitAt n kk).toNat) = treeS s l n B 1 := by
        rw [hBk] at htr
        exact htr
      have hok2 := bitS_ok (bitAt n kk) HO.out.1 HO.out.2.1 (show p < L.length by rw [HO.out.2.2.1]; exact hpl)
      have hlen2 := bitS_len S L p (bitAt n kk)
      have hout2 := putS_len S (S.width / 2048 * L.getD p 0) (bitAt n kk)
      have HNX := Lib.hid (show Okc (bitS S L p (bitAt n kk)).1 ∧ Okl (bitS S L p (bitAt n kk)).2 ∧ (bitS S L p (bitAt n kk)).2.length = m ∧ (2 * p + (bitAt n kk).toNat + 1) * 2 ^ kk ≤ 2 * m ∧ (bitS S L p (bitAt n kk)).1.out.length ≤ s.out.length + (k + 1) from
        ⟨hok2.1, hok2.2, hlen2.trans HO.out.2.2.1, tree_next _ hpm, by have := HO.out.2.2.2.2; show (putS S _ _).out.length ≤ _; omega⟩)
      generalize bitS S L p (bitAt n kk) = SL at *
      have hb1 := bit_le (bitAt n kk)
      generalize (bitAt n kk).toNat = bv at *
      have HTR := Lib.hid htr
      have HK1 := Lib.hid (show B - (k + 1) = kk by omega)
      clear ho hh htr hkk hBk hpm hok2 hlen2 hout2
      go_wp2_with fail
      refine (HBIT.out wr HH.out.1 HH.out.2.1).mono ?_
      rintro e w2 ⟨rfl, vb2, ht2, hr2, hn2⟩
      have HE2 := Lib.hid (And.intro ht2 (And.intro hr2 hn2))
      have HV2 := Lib.hid (show vb2 ≠ some gc by
        rcases hn2.row with e | ⟨b, e, hb⟩
        · rw [e]; exact HH.out.2.2.1
        · rw [e]; intro e2; cases e2; have := HH.out.2.1.lt; omega)
      clear ht2 hr2 hn2
      go_wp2
      go_roundw
      case rel => exact ⟨k + 1, 2 * p + bv, SL.1, SL.2, vb2, by omega, by go_num, rfl, by omega, by rw [HK1.out]; exact HNX.out, by rw [HK1.out]; exact HTR.out, HE2.out.1, HE2.out.2.1, HV2.out, HH.out.2.2.2.trans HE2.out.2.2⟩
      case measure => simp only [intOf]; omega
    · obtain rfl : k = B := by omega
      have HTR := Lib.hid htr
      clear ho hh htr
      go_wp2
      refine bodyPost_end (results_none rfl _ _ _) rfl ?_
      have h3 := HTR.out
      rw [Nat.sub_self] at h3
      rw [← h3]
      exact ⟨rfl, vb', HH.out.1, HH.out.2.1, HH.out.2.2.2⟩
end Go.Proofs.Ytohndlfekecfoaa
