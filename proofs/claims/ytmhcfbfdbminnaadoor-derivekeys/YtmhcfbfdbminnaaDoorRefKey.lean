/-
  The document's own bytes that are derived, over this program.
-/
import Derived.Test.YtmhcfbfdbminnaaDoorRefCode
namespace Go.Proofs.YtmhcfbfdbminnaaDoor
open Go.RowKit

theorem Rd.apartNe {w w' : World} {v : Value} {l : List UInt8} {row : Option Nat} (h : Rd w v (bytesV l)) (hg : w.grownBy w' row) (hn : l ≠ [] → ∀ b, v.ownBlock = some b → row ≠ some b) : Rd w' v (bytesV l) := by
  rcases l with _ | ⟨x, l⟩
  · obtain ⟨A, c, rfl, h1, h2, _⟩ := h
    exact ⟨A, c, rfl, h1, h2, fun h => absurd rfl h⟩
  · exact h.keep fun b hb hlt => hg.block b hlt (fun e => hn (by simp) b hb e.symm)

set_option maxHeartbeats 4000000 in
theorem refKey_any (A0 : Option Addr) (n0 c0 : Nat) (s : List UInt8) (A1 : Option Addr) (n1 c1 : Nat) (t : List UInt8) (A2 : Option Addr) (n2 c2 : Nat) (q : List UInt8) (n : Nat) (w : World)
    (hr0 : Rd w (.slice A0 n0 c0) (bytesV s)) (hr1 : Rd w (.slice A1 n1 c1) (bytesV t)) (hr2 : Rd w (.slice A2 n2 c2) (bytesV q)) (hn : n ≤ 1000) (h0 : n0 ≤ 800) (h1 : n1 ≤ 800) (h2 : n2 ≤ 800) :
    Calls Tryd.prog 14 #[.slice A0 n0 c0, .slice A1 n1 c1, .slice A2 n2 c2, .int .i64 (n : Int)] w fun e w' => ∃ u, e = .returned u ∧ Rd w' u (bytesV (derived s t q n)) ∧ w.grownBy w' none := by
  have HR2 := Lib.hid hr2
  have hl2 := hr2.len.1
  rw [bytesV_len] at hl2
  have HQ := Lib.hid (show q.length ≤ 800 by omega)
  have HCODE := Lib.hid (refCode_own A1 n1 c1 t A0 n0 c0 s w hr1 hr0 (by omega) (by omega))
  have HDK := Lib.hid (fun i (h : n ≤ 32 * i) => derived_of s t q n i h)
  have HPL := Lib.hid (hmac_len t s)
  generalize hmac t s = p at *
  clear hr0 hr1 hr2 h0 h1 h2 hl2
  go_enter Tryd.func14, Tryd.ntmps14
  go_wp2_with fail
  refine HCODE.out.mono ?_
  rintro e w1 ⟨u1, rfl, ho1, hg1⟩
  have HP := Lib.hid (Rd.of_own ho1)
  have HG1 := Lib.hid hg1
  have hf1 := (Rd.of_own ho1).form
  rw [bytesV_len, HPL.out] at hf1
  obtain ⟨A5, c5, rfl⟩ := hf1
  clear ho1 hg1 HCODE
  go_wp2
  go_loopw [10, 11, 12] (fun o v x W => ∃ j : Nat, 32 * j < n + 32 ∧ x = .int .i64 ((j : Int) + 1) ∧ W.ownsRow w1.heap.size 5 1 o (32 * j) (bytesV (parts p q j)) ∧ Rd W v (bytesV (part p q j)) ∧ (part p q j ≠ [] → ∀ b, v.ownBlock = some b → o.ownBlock ≠ some b) ∧ w1.grownBy W none) (fun o _ _ _ => n - sliceLen o)
  case atStart => exact ⟨0, by omega, rfl, own_nil _ _, Rd.nil _, fun h => absurd rfl h, grown_refl _ _⟩
  case round =>
    obtain ⟨j, hj, rfl, ho, hv, hap, hgr⟩ := hrel
    have HO := Lib.hid ho
    have HV := Lib.hid hv
    have HAP := Lib.hid hap
    have HGR := Lib.hid hgr
    have hf := (Rd.of_own ho).form
    rw [bytesV_len, parts_len] at hf
    obtain ⟨A6, c6, rfl⟩ := hf
    obtain ⟨A7, c7, rfl⟩ := hv.form
    clear ho hv hap hgr
    by_cases hlt : 32 * j < n
    · have hb : decide (((32 * j : Nat) : Int) < (n : Int)) = true := by simp; omega
      have HPL2 := Lib.hid (show (part p q j).length ≤ 32 by cases j with | zero => exact Nat.zero_le _ | succ j => rw [part_len]; decide)
      have HPS := Lib.hid (show part p q (j + 1) = hmac p (part p q j ++ q ++ [UInt8.ofNat (j + 1)]) from rfl)
      have HPP := Lib.hid (show parts p q (j + 1) = parts p q j ++ part p q (j + 1) from rfl)
      go_wp2_with (at_builtin; refine wpList_append_bytes _ rfl _ _ rfl wr.heap.size _ 0 [] rfl (own_empty wr _ (Nat.le_refl _)) _ (part p q j) rfl (HV.out.grown0 (grown_alloc (grown_refl _ _) _)) ?_ ?_ ?_)
      · have := HPL2.out; omega
      · simp
      · intro v1 w2 ho2 hg2 hat2
        have hgw2 : wr.grownBy w2 none := grown_new (grown_alloc (grown_refl _ _) _) hg2 (fun b hb => by simp [Value.ownBlock] at hb; omega)
        have HO2 := Lib.hid (show w2.ownsRow wr.heap.size 5 1 v1 (part p q j).length (bytesV (part p q j)) by simpa using ho2)
        have HG2 := Lib.hid hgw2
        obtain ⟨A8, c8, rfl⟩ := (Rd.of_own HO2.out).form
        clear ho2 hg2 hat2 hgw2
        go_wp2_with (at_builtin; refine wpList_append_bytes _ rfl _ _ rfl wr.heap.size _ _ _ rfl HO2.out _ q rfl (HR2.out.grown0 ((HG1.out.trans HGR.out).trans HG2.out)) ?_ ?_ ?_)
        · have := HPL2.out; have := HQ.out; omega
        · exact HG2.out.size
        · intro v3 w3 ho3 hg3 hat3
          have hgw3 : wr.grownBy w3 none := grown_new HG2.out hg3 (fun b hb => (HO2.out.lt b hb).1)
          have HO3 := Lib.hid (show w3.ownsRow wr.heap.size 5 1 v3 ((part p q j).length + q.length) (bytesV (part p q j ++ q)) by rw [bytesV_app]; exact ho3)
          have HG3 := Lib.hid hgw3
          obtain ⟨A9, c9, rfl⟩ := (Rd.of_own HO3.out).form
          clear ho3 hg3 hat3 hgw3
          have hbv : byteV (UInt8.ofNat (j + 1)) = .int .u8 ((j : Int) + 1) := by
            have e : (UInt8.ofNat (j + 1)).toNat = j + 1 := by simp; omega
            unfold byteV
            rw [e]
            rfl
          have hrb := Rd.byte w3 (UInt8.ofNat (j + 1)) (H := w3.heap.size) rfl
          rw [hbv] at hrb
          generalize UInt8.ofNat (j + 1) = y at *
          have HRB := Lib.hid hrb
          clear hrb hbv
          go_wp2_with (at_builtin; refine wpList_append_bytes _ rfl _ _ rfl wr.heap.size _ _ _ rfl (own_kept0 HO3.out (grown_alloc (grown_refl _ none) _)) _ [y] rfl HRB.out ?_ ?_ ?_)
          · have := HPL2.out; have := HQ.out; simp; omega
          · have := HG3.out.size; simp; omega
          · intro v4 w4 ho4 hg4 hat4
            have hgw4 : wr.grownBy w4 none := grown_new (grown_alloc HG3.out _) hg4 (fun b hb => (HO3.out.lt b hb).1)
            have hr4 : Rd w4 v4 (bytesV (part p q j ++ q ++ [y])) := by rw [bytesV_app]; exact Rd.of_own ho4
            have HG4 := Lib.hid hgw4
            have hf4 := hr4.form
            obtain ⟨A10, c10, rfl⟩ := hf4
            have hm : (bytesV (part p q j ++ q ++ [y])).length ≤ 900 := by
              have := HPL2.out
              have := HQ.out
              rw [bytesV_len]
              simp
              omega
            have hco := refCode_own A5 32 c5 p A10 _ c10 (part p q j ++ q ++ [y]) w4 (HP.out.grown0 (HGR.out.trans hgw4)) hr4 (by decide) hm
            rw [← HPS.out] at hco
            have HCO := Lib.hid hco
            generalize (bytesV (part p q j ++ q ++ [y])).length = n10 at *
            clear ho4 hg4 hat4 hgw4 hr4 hco hm
            go_wp2_with fail
            refine HCO.out.mono ?_
            rintro e w5 ⟨u5, rfl, ho5, hg5⟩
            have hgw5 := HG4.out.trans hg5
            have hoo5 := own_kept0 HO.out hgw5
            have hlt5 := ho5.lt
            have hap5 : ∀ b, u5.ownBlock = some b → (Value.slice A6 (32 * j) c6).ownBlock ≠ some b := fun b hb e => by
              have h1 := (hlt5 b hb).1
              have h2 := (HO.out.lt b e).2
              have h3 := HG4.out.size
              omega
            have HG5 := Lib.hid hgw5
            have HOO5 := Lib.hid hoo5
            have HR5 := Lib.hid (Rd.of_own ho5)
            have HLT5 := Lib.hid hlt5
            have HAP5 := Lib.hid hap5
            have HP32 := Lib.hid (part_len p q j)
            obtain ⟨A11, c11, rfl⟩ := (Rd.of_own ho5).form
            clear ho5 hg5 hgw5 hoo5 hlt5 hap5 HCO
            go_wp2_with (at_builtin; refine wpList_append_bytes _ rfl _ _ rfl w1.heap.size _ _ _ rfl HOO5.out _ (part p q (j + 1)) rfl HR5.out ?_ ?_ ?_)
            · have := HP32.out; omega
            · exact (HGR.out.trans HG5.out).size
            · intro v6 w6 ho6 hg6 hat6
              have hgw6 : w1.grownBy w6 none := grown_new (HGR.out.trans HG5.out) hg6 (fun b hb => (HOO5.out.lt b hb).1)
              have ho6' : w6.ownsRow w1.heap.size 5 1 v6 (32 * (j + 1)) (bytesV (parts p q (j + 1))) := by
                rw [HPP.out, bytesV_app, show 32 * (j + 1) = 32 * j + (part p q (j + 1)).length by rw [HP32.out]; omega]
                exact ho6
              have hr6 : Rd w6 (.slice A11 (bytesV (part p q (j + 1))).length c11) (bytesV (part p q (j + 1))) := HR5.out.apartNe hg6 (fun _ b hb e => HAP5.out b hb e)
              have hap6 : ∀ b, (Value.slice A11 (bytesV (part p q (j + 1))).length c11).ownBlock = some b → v6.ownBlock ≠ some b := fun b hb e => by
                rcases hat6 with h | h
                · exact HAP5.out b hb (h ▸ e)
                · have h1 := (HLT5.out b hb).2
                  rw [h] at e
                  injection e with e
                  omega
              have HO6 := Lib.hid ho6'
              have HR6 := Lib.hid hr6
              have HAP6 := Lib.hid hap6
              have HG6 := Lib.hid hgw6
              have hf6 := (Rd.of_own ho6').form
              rw [bytesV_len, parts_len] at hf6
              obtain ⟨A12, c12, rfl⟩ := hf6
              clear ho6 hg6 hat6 hgw6 ho6' hr6 hap6
              go_wp2
              go_roundw
              case rel => exact ⟨j + 1, by omega, by go_num, HO6.out, HR6.out, fun _ => HAP6.out, HG6.out⟩
              case measure => simp only [sliceLen]; omega
    · have hd := HDK.out j (by omega)
      have hr := Rd.of_own HO.out
      have HGW := Lib.hid (HG1.out.trans HGR.out)
      rcases HO.out.2 with ⟨he, h0⟩ | ⟨g, cap, cur, he, _, _, hnc, hcm, _, _⟩
      · injection he with e1 e2 e3
        subst e1 e3
        obtain rfl : n = 0 := by omega
        obtain rfl : j = 0 := by omega
        clear hr hlt hj
        go_wp2
        go_ret
        exact ⟨_, rfl, by rw [← hd]; exact Rd.nil _, HGW.out⟩
      · injection he with e1 e2 e3
        subst e1 e3
        have hnc' : n ≤ c6 := by omega
        have ht := hr.take (n := n) (d := c6) (by omega) hnc' (Nat.le_refl _)
        have HTK := Lib.hid (show Rd wr (.slice (some ⟨g, 0, none⟩) n c6) (bytesV (derived s t q n)) by
          rw [← hd]
          simpa [bytesV, List.map_take] using ht)
        have hlt' : ¬ (32 * (j : Int) < (n : Int)) := by omega
        clear hr ht hd hcm
        go_wp2
        go_ret
        exact ⟨_, rfl, HTK.out, HGW.out⟩
end Go.Proofs.YtmhcfbfdbminnaaDoor
