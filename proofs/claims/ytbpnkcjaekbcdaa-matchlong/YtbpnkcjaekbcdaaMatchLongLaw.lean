/-
  The law MatchLong, walked.
-/
import Derived.Test.YtbpnkcjaekbcdaaMatchAwake
import Derived.Test.YtbpnkcjaekbcdaaMatchParsesLaw
import Derived.Test.YtbpnkcjaekbcdaaLzLong
namespace Go.Proofs.Ytbpnkcjaekbcdaa
open Go.RowKit

theorem madeBytes (n : Nat) : madeCells #[Value.int .u8 0] n = (bytesV (List.replicate n 0)).toArray := by
  apply Array.ext
  · rw [size_madeCells]; simp [bytesV]
  · intro i h1 h2
    simp [madeCells, bytesV, byteV, Nat.mod_one]
theorem RdT.drop1 {w : World} {A : Option Addr} {n c : Nat} {l : List Tok} (h : RdT w (.slice A n c) l) (hn : 1 ≤ n) : RdT w (.slice (A.map fun x => x.add 3) (n - 1) (c - 1)) (l.drop 1) := by
  obtain ⟨A', c', he, h1, h2, hc⟩ := h
  injection he with e1 e2 e3
  subst e1 e2 e3
  refine ⟨_, _, by rw [List.length_drop], by rw [List.length_drop]; omega, by omega, fun hne => ?_⟩
  obtain ⟨ad, rfl, hcl⟩ := hc (by rintro rfl; exact hne rfl)
  refine ⟨_, rfl, fun j t ht i u hu => ?_⟩
  rw [List.getElem?_drop] at ht
  have := hcl _ t ht i u hu
  rw [add_add, show 3 + (j * 3 + i) = (1 + j) * 3 + i by omega]
  exact this

theorem rep_next (n k : Nat) (C : UInt8) (h : k < n) : (List.replicate k C ++ List.replicate (n - k) 0).set k C = List.replicate (k + 1) C ++ List.replicate (n - (k + 1)) 0 := by
  apply List.ext_getElem?
  intro i
  rw [List.getElem?_set, List.getElem?_append, List.getElem?_append, List.length_append]
  simp only [List.length_replicate, List.getElem?_replicate]
  by_cases h1 : k = i
  · subst h1
    rw [if_pos rfl, if_pos (by omega), if_pos (by omega), if_pos (by omega)]
  · rw [if_neg h1]
    repeat' split
    all_goals first | rfl | omega
theorem rep_at (n k : Nat) (C : UInt8) (h : k < n) : (bytesV (List.replicate k C ++ List.replicate (n - k) 0))[k]? = some (.int .u8 0) := by
  have e : (List.replicate k C ++ List.replicate (n - k) (0 : UInt8))[k]? = some 0 := by
    rw [List.getElem?_append_right (by simp)]
    simp only [List.length_replicate, List.getElem?_replicate]
    rw [if_pos (by omega)]
  rw [bytesV, List.getElem?_map, e]
  rfl
theorem parseFrom_nil {b : List UInt8} {win f p : Nat} (h : parseFrom b win f p = []) (hf : b.length ≤ p + f) : b.length ≤ p := by
  cases f with
  | zero => omega
  | succ f =>
    rw [parseFrom] at h
    split at h
    · cases h
    · omega

set_option maxHeartbeats 4000000 in
set_option maxRecDepth 100000 in
theorem matchLong_walk (c : Nat) (hc : c < 256) (many : Nat) (hmn : many < 65536) (win : Int) (w : World) :
    Calls Try.prog 6 #[.int .u8 (c : Int), .int .u16 (many : Int), .int .i64 win] w (Awake w) := by
  obtain ⟨C, rfl⟩ : ∃ C : UInt8, c = C.toNat := ⟨UInt8.ofNat c, by rw [UInt8.toNat_ofNat']; omega⟩
  clear hc
  obtain ⟨n, hn⟩ : ∃ n, many % 2000 = n := ⟨_, rfl⟩
  have hmod : (many : Int).tmod 2000 = (n : Int) := by rw [Int.tmod_eq_emod_of_nonneg (by omega), ← hn]; simp
  have hn2 : n < 2000 := by omega
  clear hn
  by_cases h2 : win < 1
  · have hd2 : decide (win < 1) = true := by simpa using h2
    go_enter Try.func6, Try.ntmps6
    go_wp2_with (go_at_call 9; refine (awake_any _).mono ?_; rintro e w9 ⟨rfl, hg9⟩)
    go_ret
    exact ⟨rfl, hg9⟩
  have hd2 : decide (win < 1) = false := by simpa using h2
  by_cases h3 : 32768 < win
  · have hd3 : decide (32768 < win) = true := by simpa using h3
    go_enter Try.func6, Try.ntmps6
    go_wp2_with (go_at_call 9; refine (awake_any _).mono ?_; rintro e w9 ⟨rfl, hg9⟩)
    go_ret
    exact ⟨rfl, hg9⟩
  have hd3 : decide (32768 < win) = false := by simpa using h3
  by_cases h0 : n = 0
  · have hd0 : ((n : Int) == 0) = true := by simp; omega
    clear h2 h3
    subst h0
    go_enter Try.func6, Try.ntmps6
    go_wp2_with (go_at_call 9; refine (awake_any _).mono ?_; rintro e w9 ⟨rfl, hg9⟩)
    go_ret
    exact ⟨rfl, hg9⟩
  have hd0 : ((n : Int) == 0) = false := by simpa using h0
  have hms := fun w => run_make_row' (P := Try.prog) 22 5 (.int .u8 0) 1 Try.underlying22 (by kernel_rfl) rfl .i64 .i64 n (by omega) (by omega) w
  simp only [madeBytes] at hms
  have HW := Lib.hid (show 1 ≤ win ∧ win ≤ 32768 by omega)
  clear h2 h3
  go_enter Try.func6, Try.ntmps6
  go_wp2
  generalize hG : w.heap.size = g at *
  have hr0 : Row (w.alloc (.cells (bytesV (List.replicate n 0)).toArray 5)) g 5 (bytesV (List.replicate 0 C ++ List.replicate (n - 0) 0)) := Row.newAt w _ _ hG
  have hg0 := grown_alloc (grown_refl w none) (.cells (bytesV (List.replicate n 0)).toArray 5)
  generalize w.alloc (.cells (bytesV (List.replicate n 0)).toArray 5) = W0 at *
  have HR0 := Lib.hid hr0
  have HG0 := Lib.hid hg0
  have HGE := Lib.hid hG
  clear hr0 hg0 hG hms
  go_loopw [32] (fun i V => ∃ k : Nat, k ≤ n ∧ i = .int .i64 k ∧ Row V g 5 (bytesV (List.replicate k C ++ List.replicate (n - k) 0)) ∧ w.grownBy V none) (fun i _ => n - (intOf i).toNat)
  case atStart => exact ⟨0, Nat.zero_le _, rfl, HR0.out, HG0.out⟩
  case round =>
    obtain ⟨k, hk, rfl, hr, hg⟩ := hrel
    by_cases hlt : k < n
    · have cc := hr.cell (rep_at n k C hlt)
      have fc := hr.frozen k
      have HR := Lib.hid (show Row (wr.setCell ⟨g, k, none⟩ (.int .u8 (C.toNat : Int))) g 5 (bytesV (List.replicate (k + 1) C ++ List.replicate (n - (k + 1)) 0)) by
        rw [← rep_next n k C hlt, ← bytesV_set]
        exact hr.set k _)
      have HG := Lib.hid (grown_own hg (grown_set wr g k (.int .u8 (C.toNat : Int))) (by rw [HGE.out]; exact Nat.le_refl _))
      clear hr hg
      go_wp2
      go_roundw
      case rel => exact ⟨k + 1, by omega, rfl, HR.out, HG.out⟩
      case measure => simp only [intOf]; omega
    · have hkn : k = n := by omega
      subst hkn
      have hrow : Row wr g 5 (bytesV (List.replicate k C)) := by
        have := hr
        rw [Nat.sub_self, List.replicate_zero, List.append_nil] at this
        exact this
      have hrd := hrow.rds k k (by rw [bytesV_len, List.length_replicate]) (Nat.le_refl _) (by unfold maxLen; omega)
      have HPA := Lib.hid (parse_any _ (List.replicate k C) win wr hrd (by rw [List.length_replicate]; omega))
      obtain ⟨W, rfl⟩ : ∃ W : Nat, win = (W : Int) := ⟨win.toNat, by have := HW.out; omega⟩
      have hpe : parse (List.replicate k C) (W : Int) = litT C :: parseFrom (List.replicate k C) W (k - 1) 1 := by
        have hk1 : 0 < k := by omega
        obtain ⟨f, hf⟩ : ∃ f, k = f + 1 := ⟨k - 1, by omega⟩
        rw [parse, if_pos HW.out, List.length_replicate, Int.toNat_natCast]
        conv => lhs; rw [show parseFrom (List.replicate k C) W k 0 = parseFrom (List.replicate k C) W (f + 1) 0 by rw [← hf]]
        rw [parseFrom, List.length_replicate, if_pos hk1, tokAt_zero _ _ _ hk1, show k - 1 = f by omega]
        rfl
      have hpl := parse_len (List.replicate k C) (W : Int)
      rw [List.length_replicate] at hpl
      have HPE := Lib.hid hpe
      have HPL := Lib.hid hpl
      have HG := Lib.hid hg
      clear hr hg hrow hrd hpe hpl
      generalize parse (List.replicate k C) (W : Int) = l at *
      go_wp2_with fail
      refine HPA.out.mono ?_
      rintro e w1 ⟨v1, rfl, hr1, hg1⟩
      obtain ⟨A1, c1, rfl⟩ := hr1.form
      have hlp : 0 < l.length := by rw [HPE.out]; simp
      obtain ⟨ad, t0, rfl, ht0, z0, z1, z2⟩ := hr1.tok (k := 0) hlp
      obtain rfl : t0 = litT C := by rw [← ht0]; simp [HPE.out]
      rw [show ad.add (0 * 3) = ad by unfold Addr.add; simp] at z0 z1 z2
      simp only [litT] at z0 z1 z2
      obtain ⟨m, hm⟩ : ∃ m, l.length = m := ⟨_, rfl⟩
      have HM := Lib.hid hm
      rw [hm] at hr1 hlp HPL ⊢
      have hm0 : ((m : Int) == 0) = false := by simp; omega
      have hrd3 := hr1.drop1 hlp
      rw [show Option.map (fun x : Addr => x.add 3) (some ad) = some ⟨ad.block, ad.off + 3, none⟩ by unfold Addr.add; simp] at hrd3
      have hmc := hr1.len.2
      have hnil : c1 = 1 → RdT w1 (.slice (some ad) (m - 1) 0) (l.drop 1) := fun h => by
        have h1 : (l.drop 1).length = m - 1 := by rw [List.length_drop, HM.out]
        exact ⟨_, _, by rw [h1], by rw [h1]; omega, Nat.zero_le _, fun hne => absurd (List.eq_nil_of_length_eq_zero (by rw [h1]; omega)) hne⟩
      have HG1 := Lib.hid (HG.out.trans hg1)
      have HDR := Lib.hid (show l.drop 1 = parseFrom (List.replicate k C) W (k - 1) 1 by rw [HPE.out]; rfl)
      have hk0 : 0 < k := by omega
      clear hr1 hg1 HPA ht0 hm HPE
      by_cases hc1 : c1 = 1
      case' pos =>
        have HRD := Lib.hid (hnil hc1)
        subst hc1
      case' neg => have HRD := Lib.hid hrd3
      all_goals
        clear hnil hrd3
        go_wp2
        try generalize (⟨ad.block, ad.off + 3, none⟩ : Addr) = AD at *
        go_loopw [59, 11] (fun i u V => ∃ q p L f : Nat, q ≤ m - 1 ∧ i = .int .i64 q ∧ u = .int .i64 L ∧ 1 ≤ p ∧ p + L = k ∧ (l.drop 1).drop q = parseFrom (List.replicate k C) W f p ∧ k ≤ p + f ∧ w1.grownBy V none) (fun i _ _ => m - 1 - (intOf i).toNat)
        case atStart => exact ⟨0, 1, k - 1, k - 1, Nat.zero_le _, rfl, by congr 1; omega, Nat.le_refl _, by omega, HDR.out, by omega, grown_refl _ _⟩
        case round =>
          obtain ⟨q, p, L, f, hq, rfl, rfl, hp1, hpL, hdr, hpf, hg⟩ := hrel
          have hdl : (l.drop 1).length = m - 1 := by rw [List.length_drop, HM.out]
          by_cases hlt : q < m - 1
          · have hql : q < (l.drop 1).length := by rw [hdl]; exact hlt
            have hpk : p < k := by
              by_cases h : p < k
              · exact h
              · rw [parseFrom_done _ _ _ _ (by rw [List.length_replicate]; omega)] at hdr
                have := congrArg List.length hdr
                rw [List.length_drop, hdl, List.length_nil] at this
                omega
            obtain ⟨f', rfl⟩ : ∃ f', f = f' + 1 := ⟨f - 1, by omega⟩
            rw [parseFrom, List.length_replicate, if_pos hpk, List.drop_eq_getElem_cons hql] at hdr
            injection hdr with hd1 hd2'
            obtain ⟨ad2, t, e, ht, y0, y1, y2⟩ := (HRD.out.grown0 hg).tok hql
            obtain rfl := Option.some.inj e
            rw [ht] at hd1
            have htl := tokAt_long C k W p (by have := HW.out; omega) hp1 hpk
            rw [← hd1, show k - p = L by omega] at htl
            rw [← hd1] at hd2'
            have HD2 := Lib.hid hd2'
            have HG := Lib.hid hg
            have hms1 : m - 1 ≤ 2000 := by have := HPL.out; omega
            have hgr := grown_alloc (grown_refl wr none) (.cells (tokC t).toArray 38)
            have HGR := Lib.hid (hg.trans hgr)
            clear hd1 hd2' hg hgr ht hdl hql e
            by_cases h3 : 3 ≤ L
            · rw [if_pos h3] at htl
              have hd31 : decide (3 ≤ (L : Int)) = true := by simp; omega
              have hd32 : decide ((L : Int) < 3) = false := by simp; omega
              rcases Nat.lt_trichotomy L 258 with h258 | h258 | h258
              · rw [show min 258 L = L by omega] at htl
                subst htl
                have HD2 := Lib.hid (show (l.drop 1).drop (q + 1) = parseFrom (List.replicate k C) W f' (p + L) by rw [HD2.out]; congr 2; unfold tsize; simp only; omega)
                have y0 : wr.cell? _ = some (.int .u8 0) := y0
                have y1 : wr.cell? _ = some (.int .i64 (L : Int)) := y1
                have y2 : wr.cell? _ = some (.int .i64 1) := y2
                have hdm1 : decide ((L : Int) < 258) = true := by simp; omega
                have hdm2 : decide ((258 : Int) < (L : Int)) = false := by simp; omega
                have hdm3 : decide ((L : Int) ≤ 1) = false := by simp; omega
                have hdm4 : decide (L ≤ 1) = false := by simp; omega
                go_wp2
                all_goals first
                  | (exfalso; omega)
                  | (go_roundw
                     case rel => exact ⟨q + 1, p + L, 0, f', by omega, rfl, by first | rfl | (congr 1; omega), by omega, by omega, HD2.out, by omega, HGR.out⟩
                     case measure => simp only [intOf]; omega)
              · subst h258
                have htl : t = ⟨0, 258, 1⟩ := htl
                subst htl
                have HD2 := Lib.hid (show (l.drop 1).drop (q + 1) = parseFrom (List.replicate k C) W f' (p + 258) from HD2.out)
                have y0 : wr.cell? _ = some (.int .u8 0) := y0
                have y1 : wr.cell? _ = some (.int .i64 258) := y1
                have y2 : wr.cell? _ = some (.int .i64 1) := y2
                clear hd31 hd32
                go_wp2
                all_goals first
                  | (exfalso; omega)
                  | (go_roundw
                     case rel => exact ⟨q + 1, p + 258, 0, f', by omega, rfl, rfl, by omega, by omega, HD2.out, by omega, HGR.out⟩
                     case measure => simp only [intOf]; omega)
              · rw [show min 258 L = 258 by omega] at htl
                subst htl
                have HD2 := Lib.hid (show (l.drop 1).drop (q + 1) = parseFrom (List.replicate k C) W f' (p + 258) from HD2.out)
                have y0 : wr.cell? _ = some (.int .u8 0) := y0
                have y1 : wr.cell? _ = some (.int .i64 258) := y1
                have y2 : wr.cell? _ = some (.int .i64 1) := y2
                have hdm1 : decide ((L : Int) < 258) = false := by simp; omega
                have hdm2 : decide ((258 : Int) < (L : Int)) = true := by simp; omega
                go_wp2
                all_goals first
                  | (exfalso; omega)
                  | (go_roundw
                     case rel => exact ⟨q + 1, p + 258, L - 258, f', by omega, rfl, by congr 1; omega, by omega, by omega, HD2.out, by omega, HGR.out⟩
                     case measure => simp only [intOf]; omega)
            · rw [if_neg h3] at htl
              subst htl
              have hd31 : decide (3 ≤ (L : Int)) = false := by simp; omega
              have hd32 : decide ((L : Int) < 3) = true := by simp; omega
              have HD2 := Lib.hid (show (l.drop 1).drop (q + 1) = parseFrom (List.replicate k C) W f' (p + 1) from HD2.out)
              have y0 : wr.cell? _ = some (.int .u8 (C.toNat : Int)) := y0
              have y1 : wr.cell? _ = some (.int .i64 0) := y1
              have y2 : wr.cell? _ = some (.int .i64 0) := y2
              go_wp2
              all_goals first
                | (exfalso; omega)
                | (go_roundw
                   case rel => exact ⟨q + 1, p + 1, L - 1, f', by omega, rfl, by congr 1; omega, by omega, by omega, HD2.out, by omega, HGR.out⟩
                   case measure => simp only [intOf]; omega)
          · have hqm : q = m - 1 := by omega
            have hL : L = 0 := by
              rw [List.drop_eq_nil_of_le (by rw [hdl]; omega)] at hdr
              have := parseFrom_nil hdr.symm (by rw [List.length_replicate]; exact hpf)
              rw [List.length_replicate] at this
              omega
            subst hL
            have HG := Lib.hid (HG1.out.trans hg)
            clear hdr hg hdl
            go_wp2_with (go_at_call 9; refine (awake_any _).mono ?_; rintro e w9 ⟨rfl, hg9⟩)
            go_ret
            exact ⟨rfl, HG.out.trans hg9⟩
end Go.Proofs.Ytbpnkcjaekbcdaa
