/-
  The law MatchJoins, walked.
-/
import Derived.Test.YtbpnkcjaekbcdaaMatchAwake
import Derived.Test.YtbpnkcjaekbcdaaAppToks
import Derived.Test.YtbpnkcjaekbcdaaBytOps
import Derived.Laws.Concat
namespace Go.Proofs.Ytbpnkcjaekbcdaa
open Go.RowKit

theorem expand_join (l : List Tok) (b : List UInt8) (hs : sizes l ≤ 32768) (hb : b.length ≤ 200) : expand (l ++ b.map litT) = if (expand l).2 = 0 then ((expand l).1 ++ b, 0) else expand l := by
  unfold expand
  rw [expandFrom_app]
  split
  · rename_i h
    have := expandFrom_ok l [] h
    exact expandFrom_lits b _ (by simp only [List.length_nil] at this; omega)
  · rfl

set_option maxHeartbeats 4000000 in
theorem matchJoins_walk (A : Option Addr) (n c : Nat) (l : List Tok) (A2 : Option Addr) (m c2 : Nat) (b : List UInt8) (w : World) (hv : RdT w (.slice A n c) l) (hb : Rd w (.slice A2 m c2) (bytesV b)) :
    Calls Try.prog 8 #[.slice A n c, .slice A2 m c2] w (Awake w) := by
  have hn : l.length = n := hv.len.1
  have hm : b.length = m := by have := hb.len.1; rwa [bytesV_len] at this
  by_cases h1 : 200 < n
  · have hd1 : decide (200 < (n : Int)) = true := by simp; omega
    clear hv hn hb hm
    go_enter Try.func8, Try.ntmps8
    go_wp2_with (go_at_call 9; refine (awake_any _).mono ?_; rintro e w9 ⟨rfl, hg9⟩)
    go_ret
    exact ⟨rfl, hg9⟩
  have hd1 : decide (200 < (n : Int)) = false := by simp; omega
  by_cases h2 : 200 < m
  · have hd2 : decide (200 < (m : Int)) = true := by simp; omega
    clear hv hn hb hm h1
    go_enter Try.func8, Try.ntmps8
    go_wp2_with (go_at_call 9; refine (awake_any _).mono ?_; rintro e w9 ⟨rfl, hg9⟩)
    go_ret
    exact ⟨rfl, hg9⟩
  have hd2 : decide (200 < (m : Int)) = false := by simp; omega
  have HSZ := Lib.hid (fun W (h : w.grownBy W none) => sizes_any l _ W (hv.grown0 h) (by omega))
  by_cases h3 : 32768 < sizes l
  · have hd3 : decide (32768 < sizes l) = true := by simpa using h3
    clear hv hn hb hm h1 h2
    go_enter Try.func8, Try.ntmps8
    go_wp2_with fail
    refine (HSZ.out w (grown_refl _ _)).mono ?_
    rintro e w1 ⟨rfl, hg1⟩
    go_wp2_with (go_at_call 9; refine (awake_any _).mono ?_; rintro e w9 ⟨rfl, hg9⟩)
    go_ret
    exact ⟨rfl, hg1.trans hg9⟩
  have hd3 : decide (32768 < sizes l) = false := by simpa using h3
  have hjn := expand_join l b (by omega) (by omega)
  have HEX := Lib.hid (fun W (h : w.grownBy W none) => expand_any l _ W (hv.grown0 h) (by omega))
  have HEM := Lib.hid (fun (v : Value) W (h : RdT W v (l ++ b.map litT)) => expand_any (l ++ b.map litT) v W h (by rw [List.length_append, List.length_map]; omega))
  have HSM := Lib.hid (fun (v : Value) W (h : RdT W v (l ++ b.map litT)) => sizes_any (l ++ b.map litT) v W h (by rw [List.length_append, List.length_map]; omega))
  rw [sizes_app, sizes_lits] at HSM
  have hsb := sizes_bound l
  have hxl : (expand l).2 = 0 → (expand l).1.length ≤ 65536 := fun h => expandFrom_small l [] h (by simp)
  have hbad : (expand l).2 ≠ 0 → (expand l).1 = [] := expandFrom_bad l []
  have HV := Lib.hid hv
  have HB := Lib.hid hb
  have HN := Lib.hid hn
  have HM := Lib.hid hm
  have HXL := Lib.hid hxl
  have HBAD := Lib.hid hbad
  have HJN := Lib.hid hjn
  have hnn : n ≤ 200 := by omega
  have HSL := Lib.hid (show 0 ≤ sizes l ∧ sizes l ≤ 32768 by omega)
  have hmm : m ≤ 200 := by omega
  rw [hm] at HSM
  clear hv hb hn hm h1 h2 h3 hjn hxl hbad
  go_enter Try.func8, Try.ntmps8
  go_wp2_with fail
  refine (HSZ.out w (grown_refl _ _)).mono ?_
  rintro e w1 ⟨rfl, hg1⟩
  have HE1 := Lib.hid (HEX.out w1 hg1)
  have HG1 := Lib.hid hg1
  clear hg1 HEX
  go_wp2_with fail
  refine HE1.out.mono ?_
  rintro e w2 ⟨v2, rfl, hr2, hg2⟩
  have HG2 := Lib.hid (HG1.out.trans hg2)
  have HR2 := Lib.hid hr2
  clear hr2 hg2 HE1 HG1
  go_wp2_with (at_builtin; go_loud (refine wpList_appToks rfl _ _ rfl w2.heap.size _ 0 [] rfl (World.ownsRow_lit w2 #[] 0 (Nat.le_refl _) (by decide) rfl) _ l rfl ((HV.out.grown0 HG2.out).grown0 (grown_alloc (grown_refl _ none) _)) (by rw [HN.out]; omega) (by simp) ?_; intro v3 w3 ho3 hg3; have HO3 := Lib.hid ho3; have HG3 := Lib.hid hg3; clear ho3 hg3))
  have HG23 := Lib.hid (show w2.grownBy w3 none from grown_new (grown_alloc (grown_refl w2 none) (.cells #[] 38)) HG3.out (fun r e => by cases e; exact Nat.le_refl _))
  have HI0 := Lib.hid (show w3.ownsRow w2.heap.size 38 3 v3 (n + 0) (tokCs (l ++ (b.take 0).map litT)) by
    have h := HO3.out
    rw [Nat.zero_add, HN.out, List.nil_append] at h
    simpa using h)
  clear HO3 HG3
  go_loopw [36, 7] (fun i u V => ∃ k : Nat, k ≤ m ∧ i = .int .i64 k ∧ V.ownsRow w2.heap.size 38 3 u (n + k) (tokCs (l ++ (b.take k).map litT)) ∧ w2.grownBy V none) (fun i _ _ => m - (intOf i).toNat)
  case atStart => exact ⟨0, Nat.zero_le _, rfl, HI0.out, HG23.out⟩
  case round =>
    obtain ⟨k, hk, rfl, ho, hg⟩ := hrel
    by_cases hlt : k < m
    · have hkb : k < b.length := by rw [HM.out]; exact hlt
      obtain ⟨ad, y, rfl, hd, cy⟩ := (HB.out.grown0 (HG2.out.trans hg)).at_ hkb
      have hy : b[k] = y := by rw [List.drop_eq_getElem_cons hkb] at hd; injection hd
      have HNX := Lib.hid (show tokCs (l ++ (b.take (k + 1)).map litT) = tokCs (l ++ (b.take k).map litT) ++ tokC (litT y) by
        rw [List.take_succ_eq_append_getElem hkb, List.map_append, ← List.append_assoc, tokCs_app, hy]
        simp [tokCs])
      have HO := Lib.hid ho
      have HG := Lib.hid hg
      clear ho hg hd hy
      go_wp2_with (first
        | (refine wpList_buildTok rfl _ 38 24 (.inl ⟨rfl, rfl⟩) rfl (litT y) rfl ?_)
        | (at_builtin; go_loud (refine wpList_appTok rfl _ _ 38 24 (.inl ⟨rfl, rfl⟩) rfl w2.heap.size u7 (n + k) (tokCs (l ++ (b.take k).map litT)) rfl (own_grown HO.out (grown_alloc (grown_refl _ none) _)) _ (litT y) rfl (Row.new _ _ (tokC (litT y))) (by omega) (Nat.le_trans HG.out.size (by simp)) ?_; intro g' c' w7 ho7 hg7 hat7; have HO7 := Lib.hid ho7; have HG7 := Lib.hid hg7; clear ho7 hg7 hat7 cy)))
      go_roundw
      case rel => exact ⟨k + 1, by omega, rfl, by rw [HNX.out]; exact HO7.out, grown_new (grown_alloc HG.out _) HG7.out (fun r e => (HO.out.lt r e).1)⟩
      case measure => simp only [intOf]; omega
    · have hkm : k = m := by omega
      subst hkm
      rw [← HM.out, List.take_length, HM.out] at ho
      have hrt := RdT.of_own (l := l ++ b.map litT) (by rw [List.length_append, List.length_map, HN.out, HM.out]) ho
      have HRT := Lib.hid hrt
      have HGA := Lib.hid (HG2.out.trans hg)
      have HR2W := Lib.hid (HR2.out.grown0 hg)
      have HE2 := Lib.hid (HEM.out u7 wr hrt)
      clear ho hrt hg
      go_wp2_with fail
      refine HE2.out.mono ?_
      rintro e w4 ⟨v4, he4, hr4, hg4⟩
      rw [HJN.out] at he4 hr4
      have HG4 := Lib.hid (HGA.out.trans hg4)
      have HRT4 := Lib.hid (HRT.out.grown0 hg4)
      have hr2 := HR2W.out.grown0 hg4
      obtain ⟨A4, c4, rfl⟩ := hr4.form
      obtain ⟨A5, c5, rfl⟩ := hr2.form
      generalize hex : expand l = ex at *
      obtain ⟨x, code⟩ := ex
      by_cases h0 : code = 0
      · subst h0
        have he4 : e = .returned (.tuple #[.slice A4 (bytesV (x ++ b)).length c4, .int .i64 0]) := he4
        subst he4
        have hr4 : Rd w4 (.slice A4 (bytesV (x ++ b)).length c4) (bytesV (x ++ b)) := hr4
        have hx65 : x.length ≤ 65536 := HXL.out rfl
        have hadd := fun W => run_string_add_lists (P := Try.prog) W x b (by omega) (by rw [HM.out]; omega)
        have hs1 := run_str hr4
        have hs2 := run_str hr2
        have hs3 := run_str (HB.out.grown0 HG4.out)
        have HS1 := Lib.hid (HSM.out u7 w4 HRT4.out)
        have HS2 := Lib.hid (fun W (h : w4.grownBy W none) => HSZ.out W (HG4.out.trans h))
        have hw1 : IntKind.i64.wrap (sizes l + (k : Int)) = sizes l + (k : Int) := by have := HSL.out; rw [IntKind.wrap_i64]; omega
        clear hr4 hr2 hg4 HE2
        go_wp2_with fail
        refine HS1.out.mono ?_
        rintro e w5 ⟨rfl, hg5⟩
        clear hs1 hs2 hs3 hadd
        go_wp2_with fail
        refine (HS2.out w5 hg5).mono ?_
        rintro e w6 ⟨rfl, hg6⟩
        go_wp2_with (go_at_call 9; refine (awake_any _).mono ?_; rintro e w9 ⟨rfl, hg9⟩)
        go_ret
        exact ⟨rfl, ((HG4.out.trans hg5).trans hg6).trans hg9⟩
      · obtain rfl := HBAD.out h0
        rw [if_neg h0] at he4 hr4
        have he4 : e = .returned (.tuple #[.slice A4 0 c4, .int .i64 (code : Int)]) := he4
        subst he4
        have hc0 : ((code : Int) == 0) = false := by simpa using h0
        clear hr4 hr2 hg4 HE2
        go_wp2_with (go_at_call 9; refine (awake_any _).mono ?_; rintro e w9 ⟨rfl, hg9⟩)
        go_ret
        exact ⟨rfl, HG4.out.trans hg9⟩
end Go.Proofs.Ytbpnkcjaekbcdaa
