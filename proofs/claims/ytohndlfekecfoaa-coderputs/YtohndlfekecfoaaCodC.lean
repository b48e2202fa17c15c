/-
  coder's Writer over this program: begun, carry, widen, put.
-/
import Derived.Test.YtohndlfekecfoaaCodW
namespace Go.Proofs.Ytohndlfekecfoaa
set_option maxRecDepth 1000000
open Go.RowKit

theorem own_slice {w : World} {v : Value} {n : Nat} {xs : List Value} (h : w.ownsRow 0 5 1 v n xs) (hn : 0 < n) : ∃ b c, v = .slice (some ⟨b, 0, none⟩) n c := by
  rcases h.2 with ⟨_, e⟩ | ⟨g, cap, cur, rfl, _⟩
  · omega
  · exact ⟨g, cap, rfl⟩

theorem u8_last (y : UInt8) (h : y + 1 = 0) : y.toNat = 255 := by
  have h1 := congrArg UInt8.toNat h
  have h2 := UInt8.toNat_lt y
  rw [UInt8.toNat_add] at h1
  simp at h1
  omega
theorem u8_next (y : UInt8) (h : ¬ y + 1 = 0) : (y + 1).toNat = y.toNat + 1 ∧ y.toNat < 255 := by
  have h2 := UInt8.toNat_lt y
  have h3 : y.toNat ≠ 255 := by
    intro e
    apply h
    apply UInt8.toNat_inj.1
    rw [UInt8.toNat_add, e]
    rfl
  rw [UInt8.toNat_add]
  simp
  omega
set_option maxHeartbeats 4000000 in
theorem carry_at (g : Nat) (vb : Option Nat) (s : Cst) (w : World) (h : Wt w g vb s) (hl : s.out.length ≤ 1000000000) :
    Calls Try.prog 33 #[.pointer (some ⟨g, 0, none⟩)] w (WOut g vb ⟨incr s.out, s.low, s.width⟩ w) := by
  obtain ⟨v, hrow, hown, hvb, hne⟩ := h
  generalize hO : s.out = out at *
  obtain ⟨A, c, rfl⟩ := own_form hown
  have r0 := hrow.cell (j := 0) rfl
  have HR := Lib.hid hrow
  have HO := Lib.hid hown
  have HV := Lib.hid (And.intro hvb hne)
  clear hrow hown hvb hne hO
  go_enter Try.func33, Try.ntmps33
  go_wp2
  clear r0
  go_loopw [2] (fun i W => ∃ (k : Nat) (l : List UInt8), k ≤ out.length ∧ i = .int .i64 ((k : Int) - 1) ∧ Row W g 57 [.slice A out.length c, .int .u32 (s.low : Int), .int .u32 (s.width : Int)] ∧ W.ownsRow 0 5 1 (.slice A out.length c) out.length (bytesV l) ∧ l.length = out.length ∧ incrAt k l = incr out ∧ Wn [g] w vb W vb) (fun i _ => (intOf i + 1).toNat)
  case atStart => exact ⟨out.length, out, Nat.le_refl _, rfl, HR.out, HO.out, rfl, rfl, Wn.refl _ _ _⟩
  case round =>
    obtain ⟨k, l, hk, rfl, hr, ho, hll, hin, hw⟩ := hrel
    cases k with
    | zero =>
      have HH := Lib.hid (And.intro hr (And.intro ho (And.intro hll (And.intro hin hw))))
      clear hr ho hll hin hw
      go_wp2
      refine bodyPost_end (results_none rfl _ _ _) rfl ?_
      obtain ⟨hr, ho, hll, hin, hw⟩ := HH.out
      rw [show incrAt 0 l = l from rfl] at hin
      subst hin
      exact ⟨rfl, vb, ⟨_, hr, by rw [hll]; exact ho, HV.out.1, HV.out.2⟩, hw⟩
    | succ j =>
      obtain ⟨b, c', e⟩ := own_slice ho (by omega)
      injection e with e1 _ e3
      subst e1 e3
      rw [show ((j + 1 : Nat) : Int) - 1 = (j : Int) by omega]
      have r0 := hr.cell (j := 0) rfl
      have c1 := ho.cellAt j (by omega)
      rw [bytesV_at l j (by omega)] at c1
      have k1 := ho.frozenAt j
      have hneb : b ≠ g := fun e => HV.out.2 (by rw [← HV.out.1]; exact congrArg some e)
      have hvb : vb = some b := HV.out.1.symm
      have HNB := Lib.hid hneb
      have HJ := Lib.hid (show ∀ y, Row (wr.setCell ⟨b, j, none⟩ y) g 57 _ from fun y => hr.other hneb.symm y)
      have HST := Lib.hid (show ∀ y : UInt8, (wr.setCell ⟨b, j, none⟩ (.int .u8 (y.toNat : Int))).ownsRow 0 5 1 (.slice (some ⟨b, 0, none⟩) out.length c) out.length (bytesV (l.set j y)) from fun y => by
        have := (ho.stored j (.int .u8 (y.toNat : Int))).1
        rwa [show (bytesV l).set j (.int .u8 (y.toNat : Int)) = bytesV (l.set j y) from bytesV_set l j y] at this)
      have HWN := Lib.hid (show ∀ y, Wn [g] w vb (wr.setCell ⟨b, j, none⟩ y) vb from fun y => hw.grown (ho.stored j y).2 (fun b' e => by cases e; exact .inr hvb))
      have HLL := Lib.hid hll
      have HK := Lib.hid (And.intro hk (show j < out.length by omega))
      have hjn : (j : Int) < (out.length : Int) := by omega
      have hinc : incrAt (j + 1) l = if l.getD j 0 + 1 = 0 then incrAt j (l.set j 0) else l.set j (l.getD j 0 + 1) := rfl
      rw [hinc] at hin
      clear hinc hr ho hw hll hk hvb
      by_cases hz : l.getD j 0 + 1 = 0
      · rw [if_pos hz] at hin
        have hx := u8_last _ hz
        rw [hx] at c1
        have HIN := Lib.hid hin
        clear hin hz hx
        go_wp2
        go_roundw
        case rel =>
          refine ⟨j, l.set j 0, by have := HK.out; omega, rfl, ?_, HST.out 0, by rw [List.length_set]; exact HLL.out, HIN.out, ?_⟩
          · exact HJ.out _
          · exact HWN.out _
        case measure => simp only [intOf]; omega
      · rw [if_neg hz] at hin
        have hy := u8_next _ hz
        have HS1 := Lib.hid (HST.out (l.getD j 0 + 1))
        rw [hy.1] at HS1
        obtain ⟨hy1, hy2⟩ := hy
        have HIN := Lib.hid hin
        clear hin hz hy1
        generalize (l.getD j 0).toNat = x at *
        have hm : ((x : Int) + 1) % 256 = (x : Int) + 1 := by omega
        have hne0 : ((x : Int) + 1 == 0) = false := by simp; omega
        go_wp2
        refine bodyPost_ret (results_none rfl _ _ _) rfl ?_
        refine ⟨rfl, vb, ⟨_, HJ.out _, ?_, HV.out.1, HV.out.2⟩, HWN.out _⟩
        have := HS1.out
        rw [show (((x + 1 : Nat) : Int)) = (x : Int) + 1 by omega, HIN.out] at this
        rw [incr_len]
        exact this

theorem WOut.made {g : Nat} {vb : Option Nat} {s : Cst} {w : World} {e : Ending} {w' : World} (h : WOut g vb s w e w') : e = .returned (.tuple #[]) ∧ ∃ vb', Wt w' g vb' s ∧ Wn [g] w vb w' vb' := h
set_option maxRecDepth 1000000 in
set_option maxHeartbeats 4000000 in
theorem widen_at (g : Nat) (vb : Option Nat) (s : Cst) (w : World) (h : Wt w g vb s) (hs : s.low < 4294967296) (h1 : 65536 ≤ s.width) (h2 : s.width < 4294967296) (hl : s.out.length ≤ 1000000000) :
    Calls Try.prog 34 #[.pointer (some ⟨g, 0, none⟩)] w (WOut g vb (wid s) w) := by
  have HW := Lib.hid h
  obtain ⟨v, hrow, hown, hvb, hne⟩ := h
  have r2 := hrow.cell (j := 2) rfl
  clear hrow hown hvb hne
  by_cases hlt : s.width < 16777216
  · have HT := Lib.hid (tell_at g vb s w HW.out hs hl)
    have HE := Lib.hid (show wid s = ⟨(tellS s).out, (tellS s).low, s.width * 256⟩ by rw [wid, if_pos hlt])
    have HTW := Lib.hid (show (tellS s).width = s.width from rfl)
    generalize s.width = m at *
    have HMM := Lib.hid (And.intro h1 hlt)
    have hd : decide (16777216 ≤ (m : Int)) = false := by simp; omega
    clear h1 h2 hlt hs hl
    go_enter Try.func34, Try.ntmps34
    go_wp2
    refine wp_scope_jumps 0 (fun a' W => ∃ (u2 u3 u4 u5 u6 u7 u8 u9 u10 u11 u12 u13 u14 u15 : Value) (vb' : Option Nat), a' = { tmps := #[.pointer (some ⟨g, 0, none⟩), undef, u2, u3, u4, u5, u6, u7, u8, u9, u10, u11, u12, u13, u14, u15], defers := [] } ∧ Wt W g vb' (wid s) ∧ Wn [g] w vb W vb') (fun _ _ => 0) rfl ?_ ?_
    · go_wp2
      go_step3
      go_wp2_with fail
      refine (HT.out).mono ?_
      rintro e w1 ⟨rfl, vb', ht1, hn1⟩
      have HN1 := Lib.hid hn1
      obtain ⟨v1, hrow1, hown1, hvb1, hne1⟩ := ht1
      rw [HTW.out] at hrow1
      have r2' := hrow1.cell (j := 2) rfl
      have f2' := hrow1.frozen 2
      have HR1 := Lib.hid hrow1
      have HO1 := Lib.hid (And.intro hown1 (And.intro hvb1 hne1))
      clear hrow1 hown1 hvb1 hne1 hn1 r2 HT
      have hmm : m * 256 < 4294967296 := by have := HMM.out; omega
      go_wp2
      go_step3
      refine ⟨rfl, _, _, _, _, _, _, _, _, _, _, _, _, _, _, vb', rfl, ?_, ?_⟩
      · rw [HE.out]
        refine ⟨v1, ?_, own_at2 HO1.out.1 (fun b hb => heap_setCell_other w1 _ b _ (fun e => HO1.out.2.2 (by rw [← HO1.out.2.1, hb, e]))), HO1.out.2.1, HO1.out.2.2⟩
        have := HR1.out.set 2 (.int .u32 ((m : Int) * 256))
        rw [show ((m : Int) * 256) = ((m * 256 : Nat) : Int) by omega] at this ⊢
        exact this
      · exact HN1.out.grown (grown_set w1 g 2 _) (fun b e => by cases e; exact .inl (List.mem_singleton.2 rfl))
    · rintro a' W ⟨u2, u3, u4, u5, u6, u7, u8, u9, u10, u11, u12, u13, u14, u15, vb', rfl, ht1, hn1⟩
      have HE1 := Lib.hid (And.intro ht1 hn1)
      obtain ⟨v1, hrow1, _⟩ := ht1
      rw [HE.out] at hrow1
      have hrow1 : Row W g _ [v1, _, .int .u32 ((m * 256 : Nat) : Int)] := hrow1
      have r2' := hrow1.cell (j := 2) rfl
      have hd2 : decide (16777216 ≤ ((m * 256 : Nat) : Int)) = true := by have := HMM.out; simp; omega
      generalize m * 256 = m' at r2' hd2
      clear hrow1 r2 hn1 hd HT
      go_wp2
      simp only [Exit.jump]
      refine bodyPost_ret (results_none rfl _ _ _) rfl ?_
      exact ⟨rfl, vb', HE1.out.1, HE1.out.2⟩
  · have HE := Lib.hid (show wid s = s by rw [wid, if_neg hlt])
    generalize s.width = m at *
    have hd : decide (16777216 ≤ (m : Int)) = true := by simp; omega
    clear h1 h2 hlt hs hl
    go_enter Try.func34, Try.ntmps34
    go_wp2
    go_step3
    go_wp2
    go_step3
    go_wp2
    rw [Exit.noGoto_ret]
    refine bodyPost_ret (results_none rfl _ _ _) rfl ?_
    exact ⟨rfl, vb, by rw [HE.out]; exact HW.out, Wn.refl _ _ _⟩

theorem Wt.set {w : World} {g : Nat} {vb : Option Nat} {s : Cst} (h : Wt w g vb s) {low width : Nat} {W : World} (v : Value) (hr : Row W g 57 [v, .int .u32 (low : Int), .int .u32 (width : Int)]) (hv : Row w g 57 [v, .int .u32 (s.low : Int), .int .u32 (s.width : Int)])
    (hg : w.grownBy W (some g)) : Wt W g vb ⟨s.out, low, width⟩ := by
  obtain ⟨v1, hrow, hown, hvb, hne⟩ := h
  have e : v1 = v := by
    have h1 := hrow.cell (j := 0) rfl
    have h2 := hv.cell (j := 0) rfl
    rw [h1] at h2
    exact Option.some.inj h2
  subst e
  exact ⟨v1, hr, own_at2 hown (fun b hb => hg.block b (own_block_lt hown hb) (fun e => hne (by rw [← hvb, hb, e]))), hvb, hne⟩
set_option maxHeartbeats 4000000 in
theorem put_at (g : Nat) (vb : Option Nat) (s : Cst) (bound : Nat) (q : Int) (w : World) (h : Wt w g vb s) (hs : Okc s) (hb : Okb s bound) (hl : s.out.length ≤ 900000000) :
    Calls Try.prog 22 #[.pointer (some ⟨g, 0, none⟩), .int .u32 (bound : Int), .int .i64 q] w (WOut g vb (putS s bound (decide (q ≠ 0))) w) := by
  have HW := Lib.hid h
  have HS := Lib.hid hs
  have HB := Lib.hid hb
  have HL := Lib.hid hl
  obtain ⟨v, hrow, hown, hvb, hne⟩ := h
  have r1 := hrow.cell (j := 1) rfl
  have r2 := hrow.cell (j := 2) rfl
  have f1 := hrow.frozen 1
  have f2 := hrow.frozen 2
  have HR := Lib.hid hrow
  clear hrow hown hvb hne hs hb hl
  by_cases h0 : q = 0
  · subst h0
    have G1 := grown_set w g 2 (.int .u32 (bound : Int))
    have T1 := Lib.hid (HW.out.set v (HR.out.set 2 (.int .u32 (bound : Int))) HR.out G1)
    have N1 := Lib.hid ((Wn.refl [g] w vb).grown G1 (fun b e => by cases e; exact .inl (List.mem_singleton.2 rfl)))
    have HE := Lib.hid (show putS s bound (decide ((0 : Int) ≠ 0)) = wid ⟨s.out, s.low, bound⟩ from rfl)
    rw [HE.out]
    go_enter Try.func22, Try.ntmps22
    go_wp2_with fail
    generalize w.setCell ⟨g, 2, none⟩ (.int .u32 (bound : Int)) = w1 at *
    refine (widen_at g vb _ w1 T1.out HS.out.low HB.out.least (by have h1 := HB.out.most; have h2 := HS.out.most; show bound < 4294967296; omega) (by have := HL.out; show s.out.length ≤ 1000000000; omega)).mono ?_
    rintro e w2 ⟨rfl, vb', h1, h2⟩
    have H2 := Lib.hid (And.intro h1 (N1.out.trans h2))
    clear h1 h2
    go_wp2
    refine bodyPost_end (results_none rfl _ _ _) rfl ?_
    exact ⟨rfl, vb', H2.out.1, H2.out.2⟩
  · have hdq : decide (q ≠ 0) = true := by simpa using h0
    rw [hdq]
    have hq0 : (q == 0) = false := by simpa using h0
    obtain ⟨L, hL⟩ : ∃ L, L = (s.low + bound) % 4294967296 := ⟨_, rfl⟩
    obtain ⟨M, hM⟩ : ∃ M, M = s.width - bound := ⟨_, rfl⟩
    have b1 := HB.out.least
    have b2 := HB.out.most
    have s1 := HS.out.low
    have s2 := HS.out.most
    have eL : ((s.low : Int) + (bound : Int)) % 4294967296 = (L : Int) := by omega
    have eM : (s.width : Int) - (bound : Int) = (M : Int) := by omega
    have hM0 : 65536 ≤ M ∧ M < 4294967296 := by omega
    have eM2 : (M : Int) % 4294967296 = (M : Int) := by omega
    have hL0 : L < 4294967296 := by omega
    have HC := Lib.hid (show (L < bound) ↔ 4294967296 ≤ s.low + bound by omega)
    have HE := Lib.hid (show putS s bound true = wid ⟨if 4294967296 ≤ s.low + bound then incr s.out else s.out, L, M⟩ by rw [hL, hM]; rfl)
    have HLM := Lib.hid (And.intro hL0 hM0)
    rw [HE.out]
    clear hL hM
    obtain ⟨W1, hW1⟩ : ∃ W, (w.setCell ⟨g, 2, none⟩ (.int .u32 (M : Int))).setCell ⟨g, 1, none⟩ (.int .u32 (L : Int)) = W := ⟨_, rfl⟩
    have R1 := (HR.out.set 2 (.int .u32 (M : Int))).set 1 (.int .u32 (L : Int))
    have G1 := grown_trans2 (grown_set w g 2 (.int .u32 (M : Int))) (grown_set _ g 1 (.int .u32 (L : Int)))
    rw [hW1] at R1 G1
    have R1 : Row W1 g _ [v, .int .u32 (L : Int), .int .u32 (M : Int)] := R1
    have T1 := Lib.hid (HW.out.set v R1 HR.out G1)
    have N1 := Lib.hid ((Wn.refl [g] w vb).grown G1 (fun b e => by cases e; exact .inl (List.mem_singleton.2 rfl)))
    have c1 := R1.cell (j := 1) rfl
    have HW1 := Lib.hid hW1
    clear R1 G1
    by_cases hc : L < bound
    · have hif : 4294967296 ≤ s.low + bound := HC.out.1 hc
      rw [if_pos hif]
      have hd : decide ((L : Int) < (bound : Int)) = true := by simp; omega
      clear hif HC b1 b2 s1 s2 hL0 hM0 h0
      go_enter Try.func22, Try.ntmps22
      go_wp2_with fail
      refine (carry_at g vb _ W1 T1.out (by have := HL.out; show s.out.length ≤ 1000000000; omega)).mono ?_
      rintro e w2 ⟨rfl, vb2, h1, h2⟩
      have T2 := Lib.hid h1
      have N2 := Lib.hid (N1.out.trans h2)
      clear h1 h2 hW1 HW1 c1 r1 r2 f1 f2 T1 N1
      go_wp2_with fail
      refine (widen_at g vb2 _ w2 T2.out HLM.out.1 HLM.out.2.1 HLM.out.2.2 (by have := HL.out; show (incr s.out).length ≤ 1000000000; rw [incr_len]; omega)).mono ?_
      rintro e w3 ⟨rfl, vb3, h1, h2⟩
      have H2 := Lib.hid (And.intro h1 (N2.out.trans h2))
      clear h1 h2
      go_wp2
      refine bodyPost_end (results_none rfl _ _ _) rfl ?_
      exact ⟨rfl, vb3, H2.out.1, H2.out.2⟩
    · have hif : ¬ 4294967296 ≤ s.low + bound := fun e => hc (HC.out.2 e)
      rw [if_neg hif]
      have hd : decide ((L : Int) < (bound : Int)) = false := by simp; omega
      clear hif HC b1 b2 s1 s2 hL0 hM0 h0
      go_enter Try.func22, Try.ntmps22
      go_wp2_with fail
      refine (widen_at g vb _ W1 T1.out HLM.out.1 HLM.out.2.1 HLM.out.2.2 (by have := HL.out; show s.out.length ≤ 1000000000; omega)).mono ?_
      rintro e w3 ⟨rfl, vb3, h1, h2⟩
      have H2 := Lib.hid (And.intro h1 (N1.out.trans h2))
      clear h1 h2
      go_wp2
      refine bodyPost_end (results_none rfl _ _ _) rfl ?_
      exact ⟨rfl, vb3, H2.out.1, H2.out.2⟩
end Go.Proofs.Ytohndlfekecfoaa
