/-
  Chances within a greater block: a writer's Tree, a reader's.
-/
import Derived.Test.YtibofgokdjbomaaPkBit
import Derived.Test.YtibofgokdjbomaaPkM
import Derived.Test.YtibofgokdjbomaaMCodW
namespace Go.Proofs.Ytibofgokdjbomaa
set_option maxRecDepth 1000000
open Go.RowKit

set_option maxHeartbeats 4000000 in
theorem tree_in (R : List Value) (base : Nat) (g : Nat) (vb : Option Nat) (s : Cst) (gc : Nat) (t : TypeId) (l : List Nat) (m c : Nat) (n : Int) (B : Nat) (w : World) (h : Wt w g vb s) (hs : Okc s) (hl : s.out.length ≤ 800000000) (hr : Row w gc t (chR R l)) (hm : base + m ≤ l.length) (hok : Okl l) (hne : gc ≠ g ∧ vb ≠ some gc)
    (hB : B ≤ 16) (hBm : 2 ^ B ≤ m) (hm2 : m ≤ 131072) (hn : -9223372036854775808 ≤ n ∧ n ≤ 9223372036854775807) :
    Calls Try.prog 30 #[.pointer (some ⟨g, 0, none⟩), .slice (some ⟨gc, base, none⟩) m c, .int .i64 n, .int .i64 (B : Int)] w (BOutR R g vb gc t (treeB s l base n B 1) w) := by
  have HIT := Lib.hid (fun W => isTree_yes (some ⟨gc, base, none⟩) m c B hB hBm W)
  have HW := Lib.hid h
  have HR := Lib.hid hr
  have HS := Lib.hid hs
  have HL := Lib.hid hl
  have HN := Lib.hid hne
  have HOK := Lib.hid hok
  have HM := Lib.hid hm
  have HBM := Lib.hid (show (1 + 1) * 2 ^ B ≤ 2 * m by omega)
  clear h hr hs hl hne hok hm hBm
  go_enter Try.func30, Try.ntmps30
  go_wp2_with fail
  refine (HIT.out _).mono ?_
  rintro e w1 ⟨rfl, hw1⟩
  obtain rfl := hw1.symm
  go_wp2
  go_loopw [8, 16] (fun pl i W => ∃ (k p : Nat) (S : Cst) (L : List Nat) (vb' : Option Nat), k ≤ B ∧ i = .int .i64 k ∧ pl = .int .i64 p ∧ p ≤ 300000 ∧ (Okc S ∧ Okl L ∧ base + m ≤ L.length ∧ (p + 1) * 2 ^ (B - k) ≤ 2 * m ∧ S.out.length ≤ s.out.length + k) ∧ treeB S L base n (B - k) p = treeB s l base n B 1 ∧ (Wt W g vb' S ∧ Row W gc t (chR R L) ∧ vb' ≠ some gc ∧ Wn [g, gc] w vb W vb')) (fun _ i _ => B - (intOf i).toNat)
  case atStart => exact ⟨0, 1, s, l, vb, Nat.zero_le _, rfl, rfl, by decide, ⟨HS.out, HOK.out, HM.out, HBM.out, Nat.le_refl _⟩, rfl, HW.out, HR.out, HN.out.2, Wn.refl _ _ _⟩
  case round =>
    obtain ⟨k, p, S, L, vb', hk, rfl, rfl, hp2, ho, htr, hh⟩ := hrel
    have HO := Lib.hid ho
    have HH := Lib.hid hh
    by_cases hlt : k < B
    · have hd : decide ((k : Int) < (B : Int)) = true := by simp; omega
      obtain ⟨kk, hkk⟩ : ∃ kk, kk = B - 1 - k := ⟨_, rfl⟩
      have hBk : B - k = kk + 1 := by omega
      have hpm := HO.out.2.2.2.1
      rw [hBk] at hpm
      have hpl : p < m := tree_lt hpm
      have hpi : (p : Int) < (m : Int) := by omega
      have hw1 : IntKind.i64.wrap ((B : Int) - 1) = (B : Int) - 1 := by rw [IntKind.wrap_i64]; omega
      have hw2 : IntKind.i64.wrap ((B : Int) - 1 - (k : Int)) = (kk : Int) := by rw [IntKind.wrap_i64]; omega
      have hw3 : IntKind.i64.wrap (n / 2 ^ kk) = n / 2 ^ kk := by
        have := div_in n kk hn
        rw [IntKind.wrap_i64]; omega
      have hmin : min kk 64 = kk := by omega
      have hand := bit_val n kk
      have hor := or_bit p (bitAt n kk) (by omega)
      have HBIT := Lib.hid (fun W (hW : Wt W g vb' S) (hR : Row W gc t (chR R L)) => bit_in R g vb' S gc (base + p) t L ((bitAt n kk).toNat : Int) W hW HO.out.1 (by have := HL.out; have := HO.out.2.2.2.2; omega) hR (by have := HO.out.2.2.1; omega) HO.out.2.1 ⟨HN.out.1, HH.out.2.2.1⟩)
      rw [bit_dec] at HBIT
      have htr : treeB (bitS S L (base + p) (bitAt n kk)).1 (bitS S L (base + p) (bitAt n kk)).2 base n kk (2 * p + (bitAt n kk).toNat) = treeB s l base n B 1 := by
        rw [hBk] at htr
        exact htr
      have hok2 := bitS_ok (bitAt n kk) HO.out.1 HO.out.2.1 (show base + p < L.length by have := HO.out.2.2.1; omega)
      have hlen2 := bitS_len S L (base + p) (bitAt n kk)
      have hout2 := putS_len S (S.width / 2048 * L.getD (base + p) 0) (bitAt n kk)
      have HNX := Lib.hid (show Okc (bitS S L (base + p) (bitAt n kk)).1 ∧ Okl (bitS S L (base + p) (bitAt n kk)).2 ∧ base + m ≤ (bitS S L (base + p) (bitAt n kk)).2.length ∧ (2 * p + (bitAt n kk).toNat + 1) * 2 ^ kk ≤ 2 * m ∧ (bitS S L (base + p) (bitAt n kk)).1.out.length ≤ s.out.length + (k + 1) from
        ⟨hok2.1, hok2.2, by rw [hlen2]; exact HO.out.2.2.1, tree_next _ hpm, by have := HO.out.2.2.2.2; show (putS S _ _).out.length ≤ _; omega⟩)
      generalize bitS S L (base + p) (bitAt n kk) = SL at *
      have hb1 := bit_le (bitAt n kk)
      generalize (bitAt n kk).toNat = bv at *
      have HTR := Lib.hid htr
      have HK1 := Lib.hid (show B - (k + 1) = kk by omega)
      clear ho hh htr hkk hBk hpm hok2 hlen2 hout2
      go_wp2_with fail
      refine (HBIT.out wr HH.out.1 HH.out.2.1).mono ?_
      rintro e w2 ⟨rfl, vb2, ht2, hr2, hn2⟩
      have HE2 := Lib.hid (And.intro ht2 (And.intro hr2 hn2))
      have HV2 := Lib.hid (show vb2 ≠ some gc by
        rcases hn2.row with e | ⟨b, e, hb⟩
        · rw [e]; exact HH.out.2.2.1
        · rw [e]; intro e2; cases e2; have := HH.out.2.1.lt; omega)
      clear ht2 hr2 hn2
      go_wp2
      go_roundw
      case rel => exact ⟨k + 1, 2 * p + bv, SL.1, SL.2, vb2, by omega, by go_num, rfl, by omega, by rw [HK1.out]; exact HNX.out, by rw [HK1.out]; exact HTR.out, HE2.out.1, HE2.out.2.1, HV2.out, HH.out.2.2.2.trans HE2.out.2.2⟩
      case measure => simp only [intOf]; omega
    · obtain rfl : k = B := by omega
      have HTR := Lib.hid htr
      clear ho hh htr
      go_wp2
      refine bodyPost_end (results_none rfl _ _ _) rfl ?_
      have h3 := HTR.out
      rw [Nat.sub_self] at h3
      rw [← h3]
      exact ⟨rfl, vb', HH.out.1, HH.out.2.1, HH.out.2.2.2⟩
/-- What a reader's Tree answers. -/
def RTOutR (R : List Value) (g : Nat) (vb : Option Nat) (gc : Nat) (t : TypeId) (B : Nat) (p : Nat × Rst × List Nat) (w : World) (e : Ending) (w' : World) : Prop :=
  e = .returned (.int .i64 ((p.1 : Int) - ((2 ^ B : Nat) : Int))) ∧ Rs w' g vb p.2.1 ∧ Row w' gc t (chR R p.2.2) ∧ Wn [g, gc] w none w' none
set_option maxHeartbeats 4000000 in
theorem rtree_in (R : List Value) (base : Nat) (g : Nat) (vb : Option Nat) (r : Rst) (gc : Nat) (t : TypeId) (l : List Nat) (m c : Nat) (B : Nat) (w : World) (h : Rs w g vb r) (hs : Okr r) (hr : Row w gc t (chR R l)) (hm : base + m ≤ l.length) (hok : Okl l) (hne : gc ≠ g ∧ vb ≠ some gc)
    (hB : B ≤ 16) (hBm : 2 ^ B ≤ m) (hm2 : m ≤ 131072) :
    Calls Try.prog 73 #[.pointer (some ⟨g, 0, none⟩), .slice (some ⟨gc, base, none⟩) m c, .int .i64 (B : Int)] w (RTOutR R g vb gc t B (treeRB r l base B 1) w) := by
  have HIT := Lib.hid (fun W => isTree_yes (some ⟨gc, base, none⟩) m c B hB hBm W)
  have HW := Lib.hid h
  have HR := Lib.hid hr
  have HS := Lib.hid hs
  have HN := Lib.hid hne
  have HOK := Lib.hid hok
  have HM := Lib.hid hm
  have HBM := Lib.hid (show (1 + 1) * 2 ^ B ≤ 2 * m by omega)
  have HP2 := Lib.hid hBm
  clear h hr hs hne hok hm hBm
  go_enter Try.func73, Try.ntmps73
  go_wp2_with fail
  refine (HIT.out _).mono ?_
  rintro e w1 ⟨rfl, hw1⟩
  obtain rfl := hw1.symm
  go_wp2
  go_loopw [7, 13] (fun pl i W => ∃ (k p : Nat) (S : Rst) (L : List Nat), k ≤ B ∧ i = .int .i64 k ∧ pl = .int .i64 p ∧ p ≤ 300000 ∧ (Okr S ∧ Okl L ∧ base + m ≤ L.length ∧ (p + 1) * 2 ^ (B - k) ≤ 2 * m) ∧ treeRB S L base (B - k) p = treeRB r l base B 1 ∧ (Rs W g vb S ∧ Row W gc t (chR R L) ∧ Wn [g, gc] w none W none)) (fun _ i _ => B - (intOf i).toNat)
  case atStart => exact ⟨0, 1, r, l, Nat.zero_le _, rfl, rfl, by decide, ⟨HS.out, HOK.out, HM.out, HBM.out⟩, rfl, HW.out, HR.out, Wn.refl _ _ _⟩
  case round =>
    obtain ⟨k, p, S, L, hk, rfl, rfl, hp2, ho, htr, hh⟩ := hrel
    have HO := Lib.hid ho
    have HH := Lib.hid hh
    by_cases hlt : k < B
    · have hd : decide ((k : Int) < (B : Int)) = true := by simp; omega
      obtain ⟨kk, hkk⟩ : ∃ kk, kk = B - 1 - k := ⟨_, rfl⟩
      have hBk : B - k = kk + 1 := by omega
      have hpm := HO.out.2.2.2
      rw [hBk] at hpm
      have hpl : p < m := tree_lt hpm
      have hpi : (p : Int) < (m : Int) := by omega
      have hpL : base + p < L.length := by have := HO.out.2.2.1; omega
      have HBIT := Lib.hid (rbit_in R g vb S gc (base + p) t L wr HH.out.1 HO.out.1 HH.out.2.1 hpL HO.out.2.1 HN.out)
      have htr2 : treeRB (bitR S L (base + p)).2.1 (bitR S L (base + p)).2.2 base kk (2 * p + (bitR S L (base + p)).1.toNat) = treeRB r l base B 1 := by
        rw [hBk] at htr
        exact htr
      have hok2 := bitR_ok HO.out.1 HO.out.2.1 hpL
      have HNX := Lib.hid (show Okr (bitR S L (base + p)).2.1 ∧ Okl (bitR S L (base + p)).2.2 ∧ base + m ≤ (bitR S L (base + p)).2.2.length ∧ (2 * p + (bitR S L (base + p)).1.toNat + 1) * 2 ^ kk ≤ 2 * m from
        ⟨hok2.1, hok2.2.1, by rw [hok2.2.2]; exact HO.out.2.2.1, tree_next _ hpm⟩)
      generalize bitR S L (base + p) = SL at *
      have hb1 := bit_le SL.1
      have hor := or_bit p SL.1 (by omega)
      unfold RBOutR at HBIT
      generalize SL.1.toNat = bv at *
      have HTR := Lib.hid htr2
      have HK1 := Lib.hid (show B - (k + 1) = kk by omega)
      clear ho hh htr htr2 hkk hBk hpm hok2
      go_wp2_with fail
      refine HBIT.out.mono ?_
      rintro e w2 ⟨rfl, ht2, hr2, hn2⟩
      have HE2 := Lib.hid (And.intro ht2 (And.intro hr2 hn2))
      clear ht2 hr2 hn2
      go_wp2
      go_roundw
      case rel => exact ⟨k + 1, 2 * p + bv, SL.2.1, SL.2.2, by omega, by go_num, rfl, by omega, by rw [HK1.out]; exact HNX.out, by rw [HK1.out]; exact HTR.out, HE2.out.1, HE2.out.2.1, HH.out.2.2.trans HE2.out.2.2⟩
      case measure => simp only [intOf]; omega
    · obtain rfl : k = B := by omega
      have HTR := Lib.hid htr
      have hmin : min k 64 = k := by omega
      have hw := wrap_pow k (by omega)
      have hle : 2 ^ k ≤ m := HP2.out
      obtain ⟨q, hq⟩ : ∃ q, q = (2 : Nat) ^ k := ⟨_, rfl⟩
      have HQ := Lib.hid hq
      rw [← hq] at hw hle
      have hsub : IntKind.i64.wrap ((p : Int) - (q : Int)) = (p : Int) - (q : Int) := by rw [IntKind.wrap_i64]; omega
      clear ho hh htr hq
      go_wp2
      go_ret
      have h3 := HTR.out
      rw [Nat.sub_self] at h3
      rw [← h3]
      exact ⟨by rw [← HQ.out]; rfl, HH.out.1, HH.out.2.1, HH.out.2.2⟩
end Go.Proofs.Ytibofgokdjbomaa
