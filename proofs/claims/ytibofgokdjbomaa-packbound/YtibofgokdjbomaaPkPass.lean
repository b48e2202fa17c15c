/-
  pack's model over this program: past a token.
-/
import Derived.Test.YtibofgokdjbomaaPkMod
namespace Go.Proofs.Ytibofgokdjbomaa
set_option maxRecDepth 1000000
open Go.RowKit

set_option maxHeartbeats 4000000 in
theorem pass_at (gm : Nat) (x : Kst) (t : Tok) (w : World) (h : Mo w gm x) (hl : x.L.length = 2322) (hr : right t = true) (hb : t.back ≤ x.h.length) (hn : x.h.length ≤ 65536) :
    Calls Try.prog 44 #[.pointer (some ⟨gm, 0, none⟩), tokV t] w (MOut gm (nextK x x.L t) w) := by
  obtain ⟨r1, r2, r3, r4, r5, r6⟩ := right_len hr
  have HK := Lib.hid (fun W => kindOf_any t W)
  obtain ⟨gt, hgt⟩ : ∃ gt, w.heap.size = gt := ⟨_, rfl⟩
  obtain ⟨c, n, b⟩ := t
  simp only at r1 r2 r3 r4 r5 r6 hb
  obtain ⟨W1, hW1⟩ : ∃ W, w.alloc (.cells #[.int .u8 (c.toNat : Int), .int .i64 n, .int .i64 b] 37) = W := ⟨_, rfl⟩
  have hg1 : w.grownBy W1 none := by rw [← hW1]; exact grown_alloc (grown_refl _ _) _
  have HT1 := Lib.hid (show Row W1 gt 37 [.int .u8 (c.toNat : Int), .int .i64 n, .int .i64 b] by rw [← hW1]; exact Row.newAt w _ [.int .u8 (c.toNat : Int), .int .i64 n, .int .i64 b] hgt)
  have HM1 := Lib.hid (h.grown0 hg1)
  have HNE := Lib.hid (show gt ≠ gm from fun e => by have := h.lt; omega)
  have HG1 := Lib.hid (grown_trans2 (row := some gm) ⟨hg1.os, hg1.tape, hg1.output, hg1.size, fun k hk _ => hg1.block k hk (by simp)⟩ (grown_refl W1 _))
  have HL := Lib.hid hl
  have e0 := HT1.out.cell (j := 0) rfl
  have e1 := HT1.out.cell (j := 1) rfl
  have e2 := HT1.out.cell (j := 2) rfl
  clear h hg1 hl
  go_enter Try.func44, Try.ntmps44
  unfold tokV
  go_wp2_with fail
  refine (HK.out W1).mono ?_
  rintro e W2 ⟨rfl, hg2⟩
  have HT2 := Lib.hid (HT1.out.grown0 hg2)
  have HM2 := Lib.hid (HM1.out.grown0 hg2)
  have HG2 := Lib.hid (grown_trans2 HG1.out (⟨hg2.os, hg2.tape, hg2.output, hg2.size, fun k hk _ => hg2.block k hk (by simp)⟩ : W1.grownBy W2 (some gm)))
  obtain ⟨kd, hkd⟩ : ∃ kd, kindN ⟨c, n, b⟩ = kd := ⟨_, rfl⟩
  rw [hkd]
  have HK2 := Lib.hid hkd
  have k2 := HM2.out.kind HL.out
  have f2 := Row.frozen HM2.out 2322
  have HM3 := Lib.hid (HM2.out.setKind HL.out kd)
  have HT3 := Lib.hid (HT2.out.other HNE.out (i := 2322) (.int .i64 (kd : Int)))
  have HG3 := Lib.hid (grown_trans2 HG2.out (grown_set W2 gm 2322 (.int .i64 (kd : Int))))
  have k3 := HM3.out.kind HL.out
  have e0 := HT3.out.cell (j := 0) rfl
  have e1 := HT3.out.cell (j := 1) rfl
  have e2 := HT3.out.cell (j := 2) rfl
  simp only at k3
  obtain ⟨W3, hW3⟩ : ∃ W, W2.setCell ⟨gm, 2322, none⟩ (.int .i64 (kd : Int)) = W := ⟨_, rfl⟩
  rw [hW3] at HM3 HT3 HG3 k3 e0 e1 e2
  clear hg2 hW1 hgt hkd HK
  by_cases hz : n = 0
  · subst hz
    obtain rfl : kd = 0 := HK2.out.symm
    have q0 : (((0 : Nat) : Int) == 0) = true := rfl
    have HB := Lib.hid (r5 rfl)
    have HADD := Lib.hid (add_at gm _ c _ HM3.out HL.out (by show x.h.length ≤ _; omega))
    have hW3 : W2.setCell ⟨gm, 2322, none⟩ (.int .i64 0) = W3 := hW3
    have k3 : W3.cell? ⟨gm, 2322, none⟩ = some (.int .i64 0) := k3
    go_wp2_with fail
    refine HADD.out.mono ?_
    rintro e W4 ⟨rfl, hm4, hg4⟩
    have HE := Lib.hid (And.intro hm4 hg4)
    clear hm4 hg4
    go_wp2
    refine bodyPost_end (results_none rfl _ _ _) rfl ?_
    exact ⟨rfl, HE.out.1, grown_trans2 HG3.out HE.out.2⟩
  · obtain rfl : kd = 1 := by
      have := HK2.out
      unfold kindN at this
      rw [if_pos (by show (0 : Int) < n; omega)] at this
      exact this.symm
    have q0 : (((1 : Nat) : Int) == 0) = false := rfl
    have hb6 := r6 hz
    obtain ⟨nb, rfl⟩ : ∃ k : Nat, b = k := ⟨b.toNat, by omega⟩
    obtain ⟨m, rfl⟩ : ∃ k : Nat, n = k := ⟨n.toNat, by omega⟩
    have HBB := Lib.hid (show 1 ≤ nb ∧ nb ≤ 32768 ∧ nb ≤ x.h.length by omega)
    have HMM := Lib.hid (show m ≤ 258 by omega)
    have hW3 : W2.setCell ⟨gm, 2322, none⟩ (.int .i64 1) = W3 := hW3
    have k3 : W3.cell? ⟨gm, 2322, none⟩ = some (.int .i64 1) := k3
    go_wp2
    go_loopw [20] (fun i W => ∃ k : Nat, k ≤ m ∧ i = .int .i64 k ∧ Mo W gm ⟨x.L, 1, copyS nb x.h k⟩ ∧ Row W gt 37 [.int .u8 (c.toNat : Int), .int .i64 (m : Int), .int .i64 (nb : Int)] ∧ w.grownBy W (some gm)) (fun i _ => m - (intOf i).toNat)
    case atStart => exact ⟨0, Nat.zero_le _, rfl, HM3.out, HT3.out, HG3.out⟩
    case round =>
      obtain ⟨k, hk, rfl, hm, ht, hg⟩ := hrel
      have HH := Lib.hid (And.intro hm (And.intro ht hg))
      have e2 := ht.cell (j := 2) rfl
      have hcl : (copyS nb x.h k).length ≤ 66000 := by rw [copyS_len]; have := HMM.out; omega
      have hge : nb ≤ (copyS nb x.h k).length := by rw [copyS_len]; have := HBB.out; omega
      clear hm ht hg
      by_cases hlt : k < m
      · have hd : decide ((k : Int) < (m : Int)) = true := by simp; omega
        have HBK := Lib.hid (byteBack_any gm nb ⟨x.L, 1, copyS nb x.h k⟩ wr HH.out.1 HL.out ⟨HBB.out.1, HBB.out.2.1⟩ (by show (copyS nb x.h k).length ≤ _; omega))
        have HBE := Lib.hid (show backB (copyS nb x.h k) nb = (copyS nb x.h k).getD ((copyS nb x.h k).length - nb) 0 by unfold backB; rw [if_pos hge])
        go_wp2_with fail
        refine HBK.out.mono ?_
        rintro e W4 ⟨rfl, hg4⟩
        have HM4 := Lib.hid (HH.out.1.grown0 hg4)
        have HT4 := Lib.hid (HH.out.2.1.grown0 hg4)
        have HG4 := Lib.hid (grown_trans2 HH.out.2.2 (⟨hg4.os, hg4.tape, hg4.output, hg4.size, fun k hk _ => hg4.block k hk (by simp)⟩ : wr.grownBy W4 (some gm)))
        have HADD := Lib.hid (add_at gm _ (backB (copyS nb x.h k) nb) _ HM4.out HL.out (by show (copyS nb x.h k).length ≤ _; omega))
        clear hg4 HBK
        simp only
        generalize (backB (copyS nb x.h k) nb) = cb at *
        go_wp2_with fail
        refine HADD.out.mono ?_
        rintro e W5 ⟨rfl, hm5, hg5⟩
        have HM5 := Lib.hid (show Mo W5 gm ⟨x.L, 1, copyS nb x.h (k + 1)⟩ by rw [copyS, ← HBE.out]; exact hm5)
        have HT5 := Lib.hid (HT4.out.grown hg5 (fun e => by cases e; exact HNE.out rfl))
        have HG5 := Lib.hid (grown_trans2 HG4.out hg5)
        clear hm5 hg5
        go_wp2
        go_roundw
        case rel => exact ⟨k + 1, by omega, by go_num, HM5.out, HT5.out, HG5.out⟩
        case measure => simp only [intOf]; omega
      · obtain rfl : k = m := by omega
        have hd : decide ((k : Int) < (k : Int)) = false := by simp
        go_wp2
        refine bodyPost_end (results_none rfl _ _ _) rfl ?_
        refine ⟨rfl, ?_, HH.out.2.2⟩
        have e : nextK x x.L ⟨c, (k : Int), (nb : Int)⟩ = ⟨x.L, 1, copyS nb x.h k⟩ := by
          unfold nextK
          rw [HK2.out]
          unfold putTok
          simp only
          rw [if_neg hz]
          rfl
        rw [e]
        exact HH.out.1
end Go.Proofs.Ytibofgokdjbomaa
