/-
  The law CoderChances, walked.
-/
import Derived.Test.YtlmdjkahbejcdaaRcoSaw
import Derived.Test.YtlmdjkahbejcdaaCodDo
namespace Go.Proofs.Ytlmdjkahbejcdaa
open Go.RowKit

theorem Rd.boolAt {w : World} {A : Option Addr} {n c k : Nat} {l : List Bool} (h : Rd w (.slice A n c) (boolsV l)) (hk : k < n) : ∃ ad b, A = some ad ∧ w.cell? (ad.add k) = some (.bool b) := by
  obtain ⟨ad, u, rfl, hu, hc⟩ := h.cellAt hk
  simp only [boolsV, List.getElem?_map, Option.map_eq_some_iff] at hu
  obtain ⟨b, _, rfl⟩ := hu
  exact ⟨ad, b, rfl, hc⟩

set_option maxHeartbeats 8000000 in
theorem coderChances_walk (A : Option Addr) (len c : Nat) (l : List Bool) (w : World) (hr : Rd w (.slice A len c) (boolsV l)) :
    Calls Try.prog 5 #[.slice A len c] w (Awake w) := by
  by_cases hbig : 500 < len
  · have hd : decide (500 < (len : Int)) = true := by simp; omega
    clear hr
    go_enter Try.func5, Try.ntmps5
    go_wp2_with (go_at_call 10; refine (awake_any _).mono ?_; rintro e w9 ⟨rfl, hg9⟩)
    go_ret
    exact ⟨rfl, hg9⟩
  have hd : decide (500 < (len : Int)) = false := by simp; omega
  have HRD := Lib.hid hr
  have HLE := Lib.hid (show len ≤ 500 by omega)
  clear hr hbig
  go_enter Try.func5, Try.ntmps5
  go_wp2_with fail
  refine (begin_any w).mono ?_
  rintro e w1 ⟨g, rfl, ht1, hge1, hg1⟩
  obtain ⟨gc, hgc⟩ : ∃ gc, w1.heap.size = gc := ⟨_, rfl⟩
  obtain ⟨W2, hW2⟩ : ∃ W, w1.alloc (.cells #[.int .i16 0] 40) = W := ⟨_, rfl⟩
  have HS := Lib.hid (show Wt W2 g none beginS ∧ Row W2 gc _ (chV [1024]) ∧ w.grownBy W2 none by
    rw [← hW2]
    exact ⟨ht1.grown0 (grown_alloc (grown_refl _ _) _), box_first hgc, grown_alloc hg1 _⟩)
  have HN := Lib.hid (show gc ≠ g ∧ w.heap.size ≤ g ∧ w.heap.size ≤ gc from ⟨fun e => by have := ht1.lt; omega, hge1, by rw [← hgc]; exact hg1.size⟩)
  clear ht1 hge1 hg1
  go_wp2
  clear hW2 hgc
  go_loopw [5, 17] (fun u i W => ∃ (k n : Nat) (S : Cst) (vb : Option Nat), k ≤ len ∧ i = .int .i64 k ∧ u = .int .i64 n ∧ Okn n ∧ (Okc S ∧ S.out.length ≤ k) ∧ (Wt W g vb S ∧ Row W gc 40 (chV [n]) ∧ vb ≠ some gc ∧ (∀ b, vb = some b → w.heap.size ≤ b) ∧ w.grownBy W none)) (fun _ i _ => len - (intOf i).toNat)
  case atStart => exact ⟨0, 1024, beginS, none, Nat.zero_le _, rfl, rfl, ⟨by decide, by decide⟩, ⟨begin_ok, Nat.le_refl _⟩, HS.out.1, HS.out.2.1, by simp, by simp, HS.out.2.2⟩
  case round =>
    obtain ⟨k, n, S, vb, hk, rfl, rfl, hn, ho, hh⟩ := hrel
    have HO := Lib.hid ho
    have HH := Lib.hid hh
    have HOK := Lib.hid hn
    obtain ⟨hn1, hn2⟩ := hn
    clear ho hh HS
    by_cases hlt : k < len
    · have hdk : decide ((k : Int) < (len : Int)) = true := by simp; omega
      have hk500 : k < 500 := by have := HLE.out; omega
      obtain ⟨ad, b, rfl, hcb⟩ := (HRD.out.grown0 HH.out.2.2.2.2).boolAt hlt
      have hcc : wr.cell? ⟨gc, 0, none⟩ = some (.int .i16 ((n : Int) - 1024)) := HH.out.2.1.cell (j := 0) rfl
      obtain ⟨z, hz⟩ : ∃ z : Int, z = (n : Int) - 1024 := ⟨_, rfl⟩
      have HOF := Lib.hid (fun W => of_any n (by have := HOK.out.2; omega) W)
      rw [← hz] at hcc HOF
      have HSW := Lib.hid (fun W => rsaw_any n b HOK.out W)
      have HBT := Lib.hid (fun W vb' (hW : Wt W g vb' S) (hR : Row W gc 40 (chV [n])) (hv : vb' ≠ some gc) => bit_at g vb' S gc 0 _ [n] ((b.toNat : Nat) : Int) W hW HO.out.1 (by have := HO.out.2; have := HLE.out; omega) hR (by simp) (by intro x hx; rw [List.mem_singleton.1 hx]; exact HOK.out) ⟨HN.out.1, hv⟩)
      rw [bit_dec] at HBT
      have hsok := saw_ok HOK.out b
      obtain ⟨m, hm⟩ : ∃ m, m = saw n b := ⟨_, rfl⟩
      have HBS := Lib.hid (show bitS S [n] 0 b = (putS S (S.width / 2048 * n) b, [m]) by rw [hm]; rfl)
      have hsm : (b = false → n ≤ m) ∧ (b = true → m ≤ n) := by rw [hm]; unfold saw; constructor <;> (rintro rfl; simp)
      rw [← hm] at hsok HSW
      rw [HBS.out] at HBT
      have HPO := Lib.hid (show Okc (putS S (S.width / 2048 * n) b) ∧ (putS S (S.width / 2048 * n) b).out.length ≤ k + 1 from ⟨putS_ok HO.out.1 (bound_ok HO.out.1 HOK.out), by have := putS_len S (S.width / 2048 * n) b; have := HO.out.2; omega⟩)
      generalize putS S (S.width / 2048 * n) b = S1 at *
      have HSO := Lib.hid hsok
      obtain ⟨hm1, hm2⟩ := hsok
      have hq0 : ((m : Int) == (m : Int)) = true := by simp
      have hq1 : decide ((m : Int) < 31) = false := by simp; omega
      have hq1' : decide (m < 31) = false := by simp; omega
      have hq2 : decide (2017 < (m : Int)) = false := by simp; omega
      have hq2' : decide (2017 < m) = false := by simp; omega
      clear hm hz hn1 hn2
      cases b with
      | false =>
        have hcmp : decide ((m : Int) < (n : Int)) = false := by have := hsm.1 rfl; simp; omega
        have hcmp' : decide (m < n) = false := by have := hsm.1 rfl; simp; omega
        clear hsm
        go_wp2_with fail
        refine (HOF.out wr).mono ?_
        rintro e w3 ⟨rfl, hg3⟩
        have HB3 := Lib.hid (HBT.out w3 vb (HH.out.1.grown0 hg3) (HH.out.2.1.grown0 hg3) HH.out.2.2.1)
        have HG3 := Lib.hid (And.intro (HH.out.2.2.2.2.trans hg3) hg3.size)
        clear hg3 hcc hcb
        go_wp2_with fail
        refine HB3.out.mono ?_
        rintro e w4 ⟨rfl, vb4, ht4, hr4, hn4⟩
        have hcc4 : w4.cell? ⟨gc, 0, none⟩ = some (.int .i16 ((m : Int) - 1024)) := hr4.cell (j := 0) rfl
        obtain ⟨z2, hz2⟩ : ∃ z : Int, z = (m : Int) - 1024 := ⟨_, rfl⟩
        have HOF2 := Lib.hid (fun W => of_any m (by omega) W)
        rw [← hz2] at hcc4 HOF2
        have H4 := Lib.hid (show Wt w4 g vb4 S1 ∧ Row w4 gc 40 (chV [m]) ∧ vb4 ≠ some gc ∧ (∀ b, vb4 = some b → w.heap.size ≤ b) ∧ w.grownBy w4 none from ⟨ht4, hr4, by
          rcases hn4.row with e | ⟨b, e, hb⟩
          · rw [e]; exact HH.out.2.2.1
          · rw [e]; intro e2; cases e2; have := HH.out.2.1.lt; have := HG3.out.2; omega, fun b hb => by
          rcases hn4.row with e | ⟨b', e, hb'⟩
          · rw [e] at hb; exact HH.out.2.2.2.1 b hb
          · rw [e] at hb; cases hb; exact Nat.le_trans HG3.out.1.size hb', Wn.new HG3.out.1 hn4 (fun b hb => by have := HN.out; simp at hb; omega) HH.out.2.2.2.1⟩)
        clear ht4 hr4 hn4 hz2 HB3
        go_wp2_with fail
        refine (HSW.out w4).mono ?_
        rintro e w5 ⟨rfl, hw5⟩
        obtain rfl := hw5.symm
        go_wp2_with fail
        refine (HOF2.out w4).mono ?_
        rintro e w5 ⟨rfl, hg5⟩
        have H5 := Lib.hid (show Wt w5 g vb4 S1 ∧ Row w5 gc 40 (chV [m]) ∧ vb4 ≠ some gc ∧ (∀ b, vb4 = some b → w.heap.size ≤ b) ∧ w.grownBy w5 none from ⟨H4.out.1.grown0 hg5, H4.out.2.1.grown0 hg5, H4.out.2.2.1, H4.out.2.2.2.1, H4.out.2.2.2.2.trans hg5⟩)
        clear hg5 hcc4
        go_wp2
        go_roundw
        case rel => exact ⟨k + 1, m, S1, vb4, by omega, by go_num, rfl, HSO.out, HPO.out, H5.out⟩
        case measure => simp only [intOf]; omega
      | true =>
        have hcmp : decide ((n : Int) < (m : Int)) = false := by have := hsm.2 rfl; simp; omega
        have hcmp' : decide (n < m) = false := by have := hsm.2 rfl; simp; omega
        clear hsm
        go_wp2_with fail
        refine (HOF.out wr).mono ?_
        rintro e w3 ⟨rfl, hg3⟩
        have HB3 := Lib.hid (HBT.out w3 vb (HH.out.1.grown0 hg3) (HH.out.2.1.grown0 hg3) HH.out.2.2.1)
        have HG3 := Lib.hid (And.intro (HH.out.2.2.2.2.trans hg3) hg3.size)
        clear hg3 hcc hcb
        go_wp2_with fail
        refine HB3.out.mono ?_
        rintro e w4 ⟨rfl, vb4, ht4, hr4, hn4⟩
        have hcc4 : w4.cell? ⟨gc, 0, none⟩ = some (.int .i16 ((m : Int) - 1024)) := hr4.cell (j := 0) rfl
        obtain ⟨z2, hz2⟩ : ∃ z : Int, z = (m : Int) - 1024 := ⟨_, rfl⟩
        have HOF2 := Lib.hid (fun W => of_any m (by omega) W)
        rw [← hz2] at hcc4 HOF2
        have H4 := Lib.hid (show Wt w4 g vb4 S1 ∧ Row w4 gc 40 (chV [m]) ∧ vb4 ≠ some gc ∧ (∀ b, vb4 = some b → w.heap.size ≤ b) ∧ w.grownBy w4 none from ⟨ht4, hr4, by
          rcases hn4.row with e | ⟨b, e, hb⟩
          · rw [e]; exact HH.out.2.2.1
          · rw [e]; intro e2; cases e2; have := HH.out.2.1.lt; have := HG3.out.2; omega, fun b hb => by
          rcases hn4.row with e | ⟨b', e, hb'⟩
          · rw [e] at hb; exact HH.out.2.2.2.1 b hb
          · rw [e] at hb; cases hb; exact Nat.le_trans HG3.out.1.size hb', Wn.new HG3.out.1 hn4 (fun b hb => by have := HN.out; simp at hb; omega) HH.out.2.2.2.1⟩)
        clear ht4 hr4 hn4 hz2 HB3
        go_wp2_with fail
        refine (HSW.out w4).mono ?_
        rintro e w5 ⟨rfl, hw5⟩
        obtain rfl := hw5.symm
        go_wp2_with fail
        refine (HOF2.out w4).mono ?_
        rintro e w5 ⟨rfl, hg5⟩
        have H5 := Lib.hid (show Wt w5 g vb4 S1 ∧ Row w5 gc 40 (chV [m]) ∧ vb4 ≠ some gc ∧ (∀ b, vb4 = some b → w.heap.size ≤ b) ∧ w.grownBy w5 none from ⟨H4.out.1.grown0 hg5, H4.out.2.1.grown0 hg5, H4.out.2.2.1, H4.out.2.2.2.1, H4.out.2.2.2.2.trans hg5⟩)
        clear hg5 hcc4
        go_wp2
        go_roundw
        case rel => exact ⟨k + 1, m, S1, vb4, by omega, by go_num, rfl, HSO.out, HPO.out, H5.out⟩
        case measure => simp only [intOf]; omega
    · obtain rfl : k = len := by omega
      have hdk : decide ((k : Int) < (k : Int)) = false := by simp
      have HG := Lib.hid HH.out.2.2.2.2
      clear HH HO
      go_wp2_with fail
      refine (awake_any wr).mono ?_
      rintro e w7 ⟨rfl, hg7⟩
      go_wp2
      go_ret
      exact ⟨rfl, HG.out.trans hg7⟩
end Go.Proofs.Ytlmdjkahbejcdaa
