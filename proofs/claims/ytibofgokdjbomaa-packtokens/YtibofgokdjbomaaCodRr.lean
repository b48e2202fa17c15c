/-
  coder's Reader's Tree over this program.
-/
import Derived.Test.YtibofgokdjbomaaMCodR
namespace Go.Proofs.Ytibofgokdjbomaa
set_option maxRecDepth 1000000
open Go.RowKit

/-- What a reader's Tree answers. -/
def RTOut (g : Nat) (vb : Option Nat) (gc : Nat) (t : TypeId) (B : Nat) (p : Nat × Rst × List Nat) (w : World) (e : Ending) (w' : World) : Prop :=
  e = .returned (.int .i64 ((p.1 : Int) - ((2 ^ B : Nat) : Int))) ∧ Rs w' g vb p.2.1 ∧ Row w' gc t (chV p.2.2) ∧ Wn [g, gc] w none w' none
set_option maxHeartbeats 4000000 in
theorem rtree_at (g : Nat) (vb : Option Nat) (r : Rst) (gc : Nat) (t : TypeId) (l : List Nat) (m c : Nat) (B : Nat) (w : World) (h : Rs w g vb r) (hs : Okr r) (hr : Row w gc t (chV l)) (hm : l.length = m) (hok : Okl l) (hne : gc ≠ g ∧ vb ≠ some gc)
    (hB : B ≤ 16) (hBm : 2 ^ B ≤ m) (hm2 : m ≤ 131072) :
    Calls Try.prog 73 #[.pointer (some ⟨g, 0, none⟩), .slice (some ⟨gc, 0, none⟩) m c, .int .i64 (B : Int)] w (RTOut g vb gc t B (treeR r l B 1) w) := by
  have HIT := Lib.hid (fun W => isTree_yes (some ⟨gc, 0, none⟩) m c B hB hBm W)
  have HW := Lib.hid h
  have HR := Lib.hid hr
  have HS := Lib.hid hs
  have HN := Lib.hid hne
  have HOK := Lib.hid hok
  have HM := Lib.hid hm
  have HBM := Lib.hid (show (1 + 1) * 2 ^ B ≤ 2 * m by omega)
  have HP2 := Lib.hid hBm
  clear h hr hs hne hok hm hBm
  go_enter Try.func73, Try.ntmps73
  go_wp2_with fail
  refine (HIT.out _).mono ?_
  rintro e w1 ⟨rfl, hw1⟩
  obtain rfl := hw1.symm
  go_wp2
  go_loopw [7, 13] (fun pl i W => ∃ (k p : Nat) (S : Rst) (L : List Nat), k ≤ B ∧ i = .int .i64 k ∧ pl = .int .i64 p ∧ p ≤ 300000 ∧ (Okr S ∧ Okl L ∧ L.length = m ∧ (p + 1) * 2 ^ (B - k) ≤ 2 * m) ∧ treeR S L (B - k) p = treeR r l B 1 ∧ (Rs W g vb S ∧ Row W gc t (chV L) ∧ Wn [g, gc] w none W none)) (fun _ i _ => B - (intOf i).toNat)
  case atStart => exact ⟨0, 1, r, l, Nat.zero_le _, rfl, rfl, by decide, ⟨HS.out, HOK.out, HM.out, HBM.out⟩, rfl, HW.out, HR.out, Wn.refl _ _ _⟩
  case round =>
    obtain ⟨k, p, S, L, hk, rfl, rfl, hp2, ho, htr, hh⟩ := hrel
    have HO := Lib.hid ho
    have HH := Lib.hid hh
    by_cases hlt : k < B
    · have hd : decide ((k : Int) < (B : Int)) = true := by simp; omega
      obtain ⟨kk, hkk⟩ : ∃ kk, kk = B - 1 - k := ⟨_, rfl⟩
      have hBk : B - k = kk + 1 := by omega
      have hpm := HO.out.2.2.2
      rw [hBk] at hpm
      have hpl : p < m := tree_lt hpm
      have hpi : (p : Int) < (m : Int) := by omega
      have hpL : p < L.length := by rw [HO.out.2.2.1]; exact hpl
      have HBIT := Lib.hid (rbit_at g vb S gc p t L wr HH.out.1 HO.out.1 HH.out.2.1 hpL HO.out.2.1 HN.out)
      have htr2 : treeR (bitR S L p).2.1 (bitR S L p).2.2 kk (2 * p + (bitR S L p).1.toNat) = treeR r l B 1 := by
        rw [hBk] at htr
        exact htr
      have hok2 := bitR_ok HO.out.1 HO.out.2.1 hpL
      have HNX := Lib.hid (show Okr (bitR S L p).2.1 ∧ Okl (bitR S L p).2.2 ∧ (bitR S L p).2.2.length = m ∧ (2 * p + (bitR S L p).1.toNat + 1) * 2 ^ kk ≤ 2 * m from
        ⟨hok2.1, hok2.2.1, hok2.2.2.trans HO.out.2.2.1, tree_next _ hpm⟩)
      generalize bitR S L p = SL at *
      have hb1 := bit_le SL.1
      have hor := or_bit p SL.1 (by omega)
      unfold RBOut at HBIT
      generalize SL.1.toNat = bv at *
      have HTR := Lib.hid htr2
      have HK1 := Lib.hid (show B - (k + 1) = kk by omega)
      clear ho hh htr htr2 hkk hBk hpm hok2
      go_wp2_with fail
      refine HBIT.out.mono ?_
      rintro e w2 ⟨rfl, ht2, hr2, hn2⟩
      have HE2 := Lib.hid (And.intro ht2 (And.intro hr2 hn2))
      clear ht2 hr2 hn2
      go_wp2
      go_roundw
      case rel => exact ⟨k + 1, 2 * p + bv, SL.2.1, SL.2.2, by omega, by go_num, rfl, by omega, by rw [HK1.out]; exact HNX.out, by rw [HK1.out]; exact HTR.out, HE2.out.1, HE2.out.2.1, HH.out.2.2.trans HE2.out.2.2⟩
      case measure => simp only [intOf]; omega
    · obtain rfl : k = B := by omega
      have HTR := Lib.hid htr
      have hmin : min k 64 = k := by omega
      have hw := wrap_pow k (by omega)
      have hle : 2 ^ k ≤ m := HP2.out
      obtain ⟨q, hq⟩ : ∃ q, q = (2 : Nat) ^ k := ⟨_, rfl⟩
      have HQ := Lib.hid hq
      rw [← hq] at hw hle
      have hsub : IntKind.i64.wrap ((p : Int) - (q : Int)) = (p : Int) - (q : Int) := by rw [IntKind.wrap_i64]; omega
      clear ho hh htr hq
      go_wp2
      go_ret
      have h3 := HTR.out
      rw [Nat.sub_self] at h3
      rw [← h3]
      exact ⟨by rw [← HQ.out]; rfl, HH.out.1, HH.out.2.1, HH.out.2.2⟩
end Go.Proofs.Ytibofgokdjbomaa
