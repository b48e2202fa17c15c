/-
  stream.Block over this program: a block.
-/
import Derived.Test.YtjcbdplbekecjaaStrAllQ
import Derived.StillTailTactics
namespace Go.Proofs.Ytjcbdplbekecjaa
open Go.RowKit

theorem set4 (p : List Value) (n : Nat) (a b c d z : Value) : ((((p ++ List.replicate (n + 4) z).set p.length a).set (p.length + 1) b).set (p.length + 2) c).set (p.length + 3) d = p ++ [a, b, c, d] ++ List.replicate n z := by
  rw [show n + 4 = n + 1 + 1 + 1 + 1 by omega]
  simp only [List.replicate_succ, List.set_append_right _ _ (Nat.le_refl _), Nat.sub_self, List.set_cons_zero]
  rw [List.set_append_right _ _ (by omega), List.set_append_right _ _ (by omega), List.set_append_right _ _ (by omega)]
  simp [show p.length + 1 - p.length = 1 by omega, show p.length + 2 - p.length = 2 by omega, show p.length + 3 - p.length = 3 by omega]
/-- So many words are told, noughts behind them. -/
def telFar (s : List W32) (k : Nat) : List Value := bytesV (tel (s.take k)) ++ noughts8 (64 - 4 * k)
theorem telFar_pre (s : List W32) (hs : s.length = 16) (k : Nat) (hk : k ≤ 16) : (bytesV (tel (s.take k))).length = 4 * k := by rw [bytesV_len, tel_len, List.length_take]; omega
theorem telFar_len (s : List W32) (hs : s.length = 16) (k : Nat) (hk : k ≤ 16) : (telFar s k).length = 64 := by
  unfold telFar
  rw [List.length_append, telFar_pre s hs k hk]
  simp [noughts8]
  omega
theorem telFar_put (s : List W32) (hs : s.length = 16) (k : Nat) (hk : k < 16) (x : W32) (hx : s.getD k 0 = x) :
    ((((telFar s k).set (4 * k) (.int .u8 ((x.toNat : Int) % 256))).set (4 * k + 1) (.int .u8 ((x.toNat : Int) / 256 % 256))).set (4 * k + 2) (.int .u8 ((x.toNat : Int) / 65536 % 256))).set (4 * k + 3) (.int .u8 ((x.toNat : Int) / 16777216)) = telFar s (k + 1) := by
  have h4 := set4 (bytesV (tel (s.take k))) (64 - 4 * (k + 1)) (.int .u8 ((x.toNat : Int) % 256)) (.int .u8 ((x.toNat : Int) / 256 % 256)) (.int .u8 ((x.toNat : Int) / 65536 % 256)) (.int .u8 ((x.toNat : Int) / 16777216)) (.int .u8 0)
  rw [telFar_pre s hs k (by omega), show 64 - 4 * (k + 1) + 4 = 64 - 4 * k by omega] at h4
  unfold telFar
  rw [tel_succ s k (by omega), bytesV_app, hx, tel1_bytes]
  unfold noughts8
  exact h4
theorem telFar_all (s : List W32) (hs : s.length = 16) : telFar s 16 = bytesV (tel s) := by
  unfold telFar
  rw [List.take_of_length_le (by omega)]
  simp [noughts8]
theorem zip_getD (s n : List W32) (q : Nat) (h1 : q < s.length) (h2 : q < n.length) : (List.zipWith (· + ·) s n).getD q 0 = s.getD q 0 + n.getD q 0 := by
  simp only [List.getD_eq_getElem?_getD, List.getElem?_zipWith, List.getElem?_eq_getElem h1, List.getElem?_eq_getElem h2, Option.getD_some]

set_option maxHeartbeats 8000000 in
set_option maxRecDepth 100000 in
theorem block_any (key : List UInt8) (hk : key.length = 32) (n : W32) (nonce : List UInt8) (hn : nonce.length = 12) (w : World) :
    Calls Try.prog 24 #[.agg (bytesV key).toArray, .int .u32 (n.toNat : Int), .agg (bytesV nonce).toArray] w (Val (.agg (bytesV (blok key n nonce)).toArray) w) := by
  generalize hG : w.heap.size = G
  have HG := Lib.hid hG
  have HKL := Lib.hid (show (bytesV key).length = 32 by rw [bytesV_len, hk])
  have HNL := Lib.hid (show (bytesV nonce).length = 12 by rw [bytesV_len, hn])
  have HF := Lib.hid (fun w => firstWords_any key hk n nonce hn w)
  obtain ⟨W0, hW0⟩ : ∃ W, ((w.alloc (.cells (bytesV key).toArray 22)).alloc (.cells (bytesV nonce).toArray 23)).alloc (.cells (noughts8 64).toArray 49) = W := ⟨_, rfl⟩
  have R0 := Lib.hid (show Row W0 G 22 (bytesV key) by rw [← hW0]; exact ((Row.newAt w _ (bytesV key) hG).alloc _).alloc _)
  have R1 := Lib.hid (show Row W0 (G + 1) 23 (bytesV nonce) by rw [← hW0]; exact (Row.newAt _ _ (bytesV nonce) (by simp [hG])).alloc _)
  have R2 := Lib.hid (show Row W0 (G + 1 + 1) 49 (noughts8 64) by rw [← hW0]; exact Row.newAt _ _ (noughts8 64) (by simp [hG]))
  have HGR := Lib.hid (show w.grownBy W0 none by rw [← hW0]; exact grown_alloc (grown_alloc (grown_alloc (grown_refl _ _) _) _) _)
  simp only [noughts8, List.replicate] at hW0
  have HBL := Lib.hid (show blok key n nonce = tel (lastW key n nonce) from rfl)
  have HLW := Lib.hid (show lastW key n nonce = List.zipWith (· + ·) (allQs 10 (firstW key n nonce)) (firstW key n nonce) from rfl)
  have HFL := Lib.hid (firstW_len key n nonce)
  clear hk hn
  go_enter Try.func24, Try.ntmps24
  go_wp2_with (first
    | refine wpList_load_row _ rfl _ 22 rfl G 22 (bytesV key) _ rfl R0.out Try.underlying22 rfl (by rw [HKL.out]; kernel_rfl) ?_
    | refine wpList_load_row _ rfl _ 23 rfl (G + 1) 23 (bytesV nonce) _ rfl R1.out Try.underlying23 rfl (by rw [HNL.out]; kernel_rfl) ?_)
  clear hG hW0
  refine (HF.out _).mono ?_
  rintro e w1 ⟨rfl, hg1⟩
  generalize firstW key n nonce = F at *
  have HW1 := Lib.hid (show (wordsV F).length = 16 by rw [wordsV_len, HFL.out])
  have HO := Lib.hid (fun x hx => wordsV_one F x hx)
  have hGlt := R2.out.lt
  have hg1s := hg1.size
  have HLT := Lib.hid (show G + 1 + 1 < w1.heap.size by omega)
  have HGW := Lib.hid (show w.heap.size ≤ w1.heap.size by have := HGR.out.size; omega)
  have R2' := Lib.hid (R2.out.grown0 hg1)
  have HG1 := Lib.hid (HGR.out.trans hg1)
  clear R0 R1 R2 HGR HF hg1 hGlt hg1s HKL HNL
  go_wp2_with (first
    | (refine wpList_store_row _ rfl rfl _ _ 64 rfl w1.heap.size 64 zeros16 (wordsV F) rfl rfl (Row.new w1 64 zeros16) (by rw [HW1.out]; rfl) HO.out (by rw [HW1.out]; kernel_rfl) ?_; intro w2 hr2 hg2)
    | refine wpList_load_row _ rfl _ 64 rfl w1.heap.size 64 (wordsV F) _ rfl hr2 Try.underlying64 rfl (by rw [HW1.out]; kernel_rfl) ?_
    | (refine wpList_store_row _ rfl rfl _ _ 64 rfl w2.heap.size 64 zeros16 (wordsV F) rfl rfl (Row.new w2 64 zeros16) (by rw [HW1.out]; rfl) HO.out (by rw [HW1.out]; kernel_rfl) ?_; intro w3 hr3 hg3))
  have hlt2 := hr2.lt
  have hle2 : w1.heap.size + 1 ≤ w2.heap.size := by have := hg2.size; simpa using this
  have hga : w.grownBy w2 none := grown_own (grown_alloc HG1.out _) hg2 HGW.out
  have hgb : w.grownBy w3 none := grown_own (grown_alloc hga _) hg3 (by have := HGW.out; omega)
  have ra : Row w3 w1.heap.size 64 (wordsV F) := (hr2.alloc _).grown hg3 (by simp; omega)
  have rb : Row w3 (G + 1 + 1) 49 (noughts8 64) := (((R2'.out.alloc _).grown hg2 (by have := HLT.out; simp; omega)).alloc _).grown hg3 (by have := HLT.out; simp; omega)
  have HLT2 := Lib.hid (show w1.heap.size < w2.heap.size by omega)
  have HGW2 := Lib.hid (show w.heap.size ≤ w2.heap.size by have := HGW.out; omega)
  have HGB := Lib.hid hgb
  have RA := Lib.hid ra
  have RB := Lib.hid rb
  have RC := Lib.hid hr3
  clear hlt2 hle2 hga hgb ra rb hr2 hr3 hg2 hg3 R2' HG1
  generalize w1.heap.size = gF at *
  generalize w2.heap.size = gL at *
  go_loopw [16] (fun i W => ∃ k : Nat, k ≤ 10 ∧ i = .int .i64 k ∧ Row W gF 64 (wordsV F) ∧ Row W gL 64 (wordsV (allQs k F)) ∧ Row W (G + 1 + 1) 49 (noughts8 64) ∧ w.grownBy W none) (fun i _ => 10 - (intOf i).toNat)
  case atStart => exact ⟨0, Nat.zero_le _, rfl, RA.out, RC.out, RB.out, HGB.out⟩
  case round =>
    clear RA RB RC HGB
    obtain ⟨k, hk, rfl, ra, rc, rb, hgr⟩ := hrel
    have RA := Lib.hid ra
    have RB := Lib.hid rb
    have RC := Lib.hid rc
    have HGR := Lib.hid hgr
    clear ra rb rc hgr
    have HSL := Lib.hid (show (allQs k F).length = 16 by rw [allQs_len, HFL.out])
    by_cases hlt : k < 10
    · have HN := Lib.hid (show allQs (k + 1) F = allQ (allQs k F) from rfl)
      generalize allQs k F = S at *
      have HSV := Lib.hid (show (wordsV S).length = 16 by rw [wordsV_len, HSL.out])
      have HSN := Lib.hid (show (wordsV (allQ S)).length = 16 by rw [wordsV_len, allQ_len, HSL.out])
      have HSO := Lib.hid (fun x hx => wordsV_one (allQ S) x hx)
      have hdec : decide ((k : Int) < 10) = true := by simp; omega
      have HKK := Lib.hid (And.intro hk hlt)
      clear hlt
      go_wp2_with (refine wpList_load_row _ rfl _ 64 rfl gL 64 (wordsV S) _ rfl RC.out Try.underlying64 rfl (by rw [HSV.out]; kernel_rfl) ?_)
      refine (allQ_any S HSL.out _).mono ?_
      rintro e w4 ⟨rfl, hg4⟩
      have RC4 := Lib.hid (RC.out.grown0 hg4)
      have HG4 := Lib.hid hg4
      clear hg4
      go_wp2_with (refine wpList_store_row _ rfl rfl _ _ 64 rfl gL 64 (wordsV S) (wordsV (allQ S)) rfl rfl RC4.out (by rw [HSN.out, HSV.out]) HSO.out (by rw [HSN.out]; kernel_rfl) ?_; intro w5 hr5 hg5)
      go_roundw
      case rel =>
        refine ⟨k + 1, by have := HKK.out.2; omega, by go_num, (RA.out.grown0 HG4.out).grown hg5 (by have := HLT2.out; simp; omega), by rw [HN.out]; exact hr5, (RB.out.grown0 HG4.out).grown hg5 (by have := HLT.out; have := HLT2.out; simp; omega), grown_own (HGR.out.trans HG4.out) hg5 HGW2.out⟩
      case measure => have := HKK.out.2; simp [intOf]; omega
    · have hk10 : allQs k F = allQs 10 F := by rw [show k = 10 by omega]
      rw [hk10] at RC HSL
      clear hk10
      generalize allQs 10 F = L at *
      generalize hS : List.zipWith (· + ·) L F = S at *
      have HS := Lib.hid hS
      have HSZ := Lib.hid (show S.length = 16 by rw [← hS, List.length_zipWith, HSL.out, HFL.out]; rfl)
      have HLG := Lib.hid (RC.out.lt)
      have HGS := Lib.hid (show w.heap.size ≤ wr.heap.size from HGR.out.size)
      clear hS
      have hdec : decide ((k : Int) < 10) = false := by simp; omega
      have HKK := Lib.hid (And.intro hk hlt)
      clear hlt
      go_wp2
      clear hdec HKK
      have ra := RA.out.alloc (.cells (noughts8 64).toArray 49)
      have rb := RB.out.alloc (.cells (noughts8 64).toArray 49)
      have rc := RC.out.alloc (.cells (noughts8 64).toArray 49)
      have rd := Row.new wr 49 (noughts8 64)
      have hgd := grown_alloc HGR.out (.cells (noughts8 64).toArray 49)
      simp only [noughts8, List.replicate] at ra rb rc rd hgd
      generalize hW : wr.alloc _ = W at *
      clear hW RA RB RC HGR
      generalize wr.heap.size = gO at *
      have RA := Lib.hid ra
      have RB := Lib.hid rb
      have RC := Lib.hid rc
      have RD := Lib.hid rd
      have HGD := Lib.hid hgd
      clear ra rb rc rd hgd
      go_loopw [21] (fun i W => ∃ k : Nat, k ≤ 16 ∧ i = .int .i64 k ∧ Row W gF 64 (wordsV F) ∧ Row W gL 64 (wordsV L) ∧ Row W (G + 1 + 1) 49 (noughts8 64) ∧ Row W gO 49 (telFar S k) ∧ w.grownBy W none) (fun i _ => 16 - (intOf i).toNat)
      case atStart => exact ⟨0, Nat.zero_le _, rfl, RA.out, RC.out, RB.out, RD.out, HGD.out⟩
      case round =>
        clear RA RB RC RD HGD
        obtain ⟨m, hm, rfl, ra, rc, rb, rd, hgr⟩ := hrel
        have RA := Lib.hid ra
        have RB := Lib.hid rb
        have RC := Lib.hid rc
        have RD := Lib.hid rd
        have HGR := Lib.hid hgr
        by_cases hlt16 : m < 16
        · have hsl := slice_out gO m hlt16
          have c1 := rc.cell (wordsV_getD L m (by rw [HSL.out]; exact hlt16))
          have c2 := ra.cell (wordsV_getD F m (by rw [HFL.out]; exact hlt16))
          have HX := Lib.hid (show S.getD m 0 = L.getD m 0 + F.getD m 0 by rw [← HS.out]; exact zip_getD L F m (by rw [HSL.out]; exact hlt16) (by rw [HFL.out]; exact hlt16))
          have HA := Lib.hid (add_bits (L.getD m 0) (F.getD m 0))
          generalize L.getD m 0 = x at *
          generalize F.getD m 0 = y at *
          have HPL := Lib.hid (telFar_len S HSZ.out m hm)
          obtain ⟨z, hz⟩ : ∃ z, z = x + y := ⟨_, rfl⟩
          rw [← hz] at HX HA
          have HPP := Lib.hid (telFar_put S HSZ.out m hlt16 z HX.out)
          have hw4 : IntKind.i64.wrap (4 * (m : Int)) = 4 * (m : Int) := by rw [IntKind.wrap_i64]; omega
          have hwu : IntKind.u32.wrap ((x.toNat : Int) + (y.toNat : Int)) = (z.toNat : Int) := by rw [← HA.out, IntKind.wrap_u32]
          have hm16 : (m : Int) < 16 := by omega
          clear hz
          clear ra rb rc rd hgr
          have hdec : decide ((m : Int) < 16) = true := by simp; omega
          have HKK := Lib.hid (And.intro hm hlt16)
          clear hlt16
          go_wp2
          refine wp_region_still_tail 10 (by kernel_rfl) (by kernel_rfl) ?_
          change wpStill _ _ wr.drew (fun a' => wpList _ _ _ _ a' wr.drew) _ _
          have RA' := Lib.hid (RA.out.drew)
          have RB' := Lib.hid (RB.out.drew)
          have RC' := Lib.hid (RC.out.drew)
          have RD' := Lib.hid (RD.out.drew)
          have HGR' := Lib.hid (grown_drew HGR.out)
          have c1' : wr.drew.cell? ⟨gL, m, none⟩ = some (.int .u32 (x.toNat : Int)) := c1
          have c2' : wr.drew.cell? ⟨gF, m, none⟩ = some (.int .u32 (y.toNat : Int)) := c2
          clear RA RB RC RD HGR c1 c2
          generalize wr.drew = w4 at *
          simp only [List.take_succ_cons, List.take_zero, List.drop_succ_cons, List.drop_zero]
          repeat still_step
          refine wpStill_nil ?_
          go_wp2_with fail
          refine (putWord_any z (telFar S m) gO (4 * m) (64 - 4 * m) (64 - 4 * m) 49 w4 RD'.out (by have := HPL.out; have := HKK.out.2; omega) (by have := HKK.out.2; omega)).mono ?_
          rintro e w5 ⟨rfl, hg5, hr5⟩
          rw [HPP.out] at hr5
          have HG5 := Lib.hid hg5
          have HR5 := Lib.hid hr5
          clear hg5 hr5
          go_wp2
          go_roundw
          case rel =>
            refine ⟨m + 1, by have := HKK.out.2; omega, by go_num, RA'.out.grown HG5.out (by have := HLT2.out; have := HLG.out; simp; omega), RC'.out.grown HG5.out (by have := HLG.out; simp; omega), RB'.out.grown HG5.out (by have := HLT.out; have := HLT2.out; have := HLG.out; simp; omega), HR5.out, grown_own HGR'.out HG5.out HGS.out⟩
          case measure => have := HKK.out.2; simp [intOf]; omega
        · have h16 : telFar S m = bytesV (blok key n nonce) := by
            rw [show m = 16 by omega, telFar_all S HSZ.out, HBL.out, HLW.out]
          rw [h16] at RD
          have HL := Lib.hid (show (bytesV (blok key n nonce)).length = 64 by rw [bytesV_len, blok_len])
          have HO := Lib.hid (fun x hx => bytesV_one (blok key n nonce) x hx)
          have hdec : decide ((m : Int) < 16) = false := by simp; omega
          clear h16 ra rb rc rd hgr hm hlt16
          generalize bytesV (blok key n nonce) = xs at *
          go_wp2_with (first
            | refine wpList_load_row _ rfl _ 49 rfl gO 49 xs _ rfl RD.out Try.underlying49 rfl (by rw [HL.out]; kernel_rfl) ?_
            | (refine wpList_store_row _ rfl rfl _ _ 49 rfl (G + 1 + 1) 49 (noughts8 64) xs rfl rfl RB.out (by rw [HL.out]; rfl) HO.out (by rw [HL.out]; kernel_rfl) ?_; intro w2 hr2 hg2))
          refine bodyPost_ret (v := .agg xs.toArray) ?_ rfl ⟨rfl, grown_own HGR.out hg2 (by have := HG.out; omega)⟩
          exact results_row Try.results24 (G + 1 + 1) 49 xs _ rfl hr2 Try.underlying49 rfl (by rw [HL.out]; kernel_rfl)
end Go.Proofs.Ytjcbdplbekecjaa
