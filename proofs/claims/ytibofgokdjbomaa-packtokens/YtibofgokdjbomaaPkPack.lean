/-
  pack's Pack and Unpack over this program.
-/
import Derived.Test.YtibofgokdjbomaaPkRead
import Derived.Test.YtibofgokdjbomaaPkU
import Derived.Test.YtibofgokdjbomaaTokExpand
namespace Go.Proofs.Ytibofgokdjbomaa
set_option maxRecDepth 1000000
open Go.RowKit

/-- octet.Number onto nothing: a row of the call's own. -/
theorem number_own (m : Nat) (hm : m ≤ 65536) (w : World) : Calls Try.prog 34 #[.slice none 0 0, .int .i64 (m : Int)] w (OutO w (enc m)) := by
  have hnorm : norm (m : Int) = m := by unfold norm; rw [if_neg (by omega)]; simp
  have hNB := numberBytes_any (m : Int)
  rw [hnorm] at hNB
  have HNB := Lib.hid hNB
  have hE := enc_len3 hm
  generalize enc m = l at *
  have HE := Lib.hid hE
  clear hNB hE hnorm
  go_enter Try.func34, Try.ntmps34
  go_wp2_with fail
  refine (HNB.out _).mono ?_
  rintro e w1 ⟨v1, rfl, hr1, hg1, hf1⟩
  have HR1 := Lib.hid hr1
  have HG1 := Lib.hid hg1
  obtain ⟨A1, c1, rfl⟩ := hr1.form
  clear hr1 hg1 hf1
  go_wp2_with fail
  refine (concat_own w1.heap.size [_, _] [[], l] _ (heap_alloc_new w1 _) rfl (O.rd_two (Rd.nil _) (HR1.out.grown0 (grown_alloc (grown_refl _ _) _))) ?_ (by simp)).mono ?_
  · have := HE.out
    simp; omega
  · rintro e w2 ⟨v2, rfl, ho2, hg2⟩
    have HO2 := Lib.hid (own_lowP (base' := w.heap.size) ho2 (by have := HG1.out.size; simp; omega))
    have HG2 := Lib.hid (grown_new (grown_alloc HG1.out _) hg2 (fun _ h => by cases h))
    clear ho2 hg2
    go_wp2
    go_ret
    exact ⟨_, rfl, by simpa using HO2.out, HG2.out⟩
/-- What Pack answers. -/
def packR (b : List UInt8) (q : Int) : List UInt8 × Int := if q < 1 ∨ 32768 < q then ([], 1) else if 65536 < b.length then ([], 7) else (packM b q, 0)
def PaOut (w : World) (p : List UInt8 × Int) (e : Ending) (w' : World) : Prop := ∃ u, e = .returned (.tuple #[u, .int .i64 p.2]) ∧ Rd w' u (bytesV p.1) ∧ w.grownBy w' none
set_option maxHeartbeats 4000000 in
theorem pack_any (v : Value) (b : List UInt8) (q : Int) (w : World) (hv : Rd w v (bytesV b)) : Calls Try.prog 12 #[v, .int .i64 q] w (PaOut w (packR b q)) := by
  obtain ⟨A, c, rfl⟩ := hv.form
  have HV := Lib.hid hv
  rw [bytesV_len] at HV ⊢
  clear hv
  by_cases h1 : q < 1 ∨ 32768 < q
  · have HP := Lib.hid (show packR b q = ([], 1) by unfold packR; rw [if_pos h1])
    rw [HP.out]
    by_cases ha : q < 1
    · have hd : decide (q < 1) = true := by simpa using ha
      clear h1 ha
      go_enter Try.func12, Try.ntmps12
      go_wp2
      refine bodyPost_ret (results_tmp2 rfl _ _ _) rfl ?_
      exact ⟨_, rfl, Rd.nil _, grown_refl _ _⟩
    · have hd : decide (q < 1) = false := by simpa using ha
      have hd2 : decide (32768 < q) = true := by simp; omega
      clear h1 ha
      go_enter Try.func12, Try.ntmps12
      go_wp2
      refine bodyPost_ret (results_tmp2 rfl _ _ _) rfl ?_
      exact ⟨_, rfl, Rd.nil _, grown_refl _ _⟩
  · have hd : decide (q < 1) = false := by simp; omega
    have hd2 : decide (32768 < q) = false := by simp; omega
    by_cases h2 : 65536 < b.length
    · have HP := Lib.hid (show packR b q = ([], 7) by unfold packR; rw [if_neg h1, if_pos h2])
      rw [HP.out]
      have hd3 : decide (65536 < (b.length : Int)) = true := by simp; omega
      clear h1
      generalize b.length = n at *
      go_enter Try.func12, Try.ntmps12
      go_wp2
      refine bodyPost_ret (results_tmp2 rfl _ _ _) rfl ?_
      exact ⟨_, rfl, Rd.nil _, grown_refl _ _⟩
    · have HP := Lib.hid (show packR b q = (packM b q, 0) by unfold packR; rw [if_neg h1, if_neg h2])
      rw [HP.out]
      have hd3 : decide (65536 < (b.length : Int)) = false := by simp; omega
      have HB := Lib.hid (show b.length ≤ 65536 by omega)
      have HQ := Lib.hid (show 1 ≤ q ∧ q ≤ 32768 by omega)
      have HPB := Lib.hid (parse_back b q HQ.out HB.out).1
      have HPA := Lib.hid (fun W (hW : Rd W (.slice A b.length c) (bytesV b)) => parse_any _ b q W hW (by have := HB.out; omega))
      have HNU := Lib.hid (number_own b.length HB.out)
      have HWL := Lib.hid (show (enc b.length).length ≤ 3 ∧ (writeS (parse b q)).length ≤ 1000000 by
        have h := write_len (l := parse b q) (by rw [HPB.out])
        rw [HPB.out] at h
        have := HB.out
        have := enc_len3 HB.out
        simp only at h
        omega)
      have HPM := Lib.hid (show packM b q = enc b.length ++ writeS (parse b q) from rfl)
      clear h1 h2 HQ
      generalize hn : b.length = n at *
      go_enter Try.func12, Try.ntmps12
      go_wp2_with fail
      refine (HNU.out w).mono ?_
      rintro e w1 ⟨v1, rfl, ho1, hg1⟩
      have H1 := Lib.hid (And.intro ho1 hg1)
      clear ho1 hg1
      go_wp2_with fail
      refine (HPA.out w1 (HV.out.grown0 H1.out.2)).mono ?_
      rintro e w2 ⟨v2, rfl, ht2, hg2⟩
      have H2 := Lib.hid (show RdT w2 v2 (parse b q) ∧ w2.ownsRow w.heap.size 5 1 v1 (enc n).length (bytesV (enc n)) ∧ w.grownBy w2 none from ⟨ht2, own_grown H1.out.1 hg2, H1.out.2.trans hg2⟩)
      have HWR := Lib.hid (write_any (parse b q) v2 w2 ht2 (by rw [HPB.out]))
      clear ht2 hg2 H1
      go_wp2_with fail
      refine HWR.out.mono ?_
      rintro e w3 ⟨v3, rfl, ho3, hg3⟩
      have H3 := Lib.hid (show Rd w3 v3 (bytesV (writeS (parse b q))) ∧ w3.ownsRow w.heap.size 5 1 v1 (enc n).length (bytesV (enc n)) ∧ w.grownBy w3 none from ⟨Rd.of_own ho3, own_grown H2.out.2.1 hg3, H2.out.2.2.trans hg3⟩)
      clear ho3 hg3 H2 HWR
      go_wp2_with (at_builtin; refine wpList_append_bytes _ rfl _ _ rfl w.heap.size v1 (enc n).length (bytesV (enc n)) rfl H3.out.2.1 v3 (writeS (parse b q)) rfl H3.out.1 (by have := HWL.out; omega) H3.out.2.2.size ?_; intro v4 w4 ho4 hg4 hat4)
      have HO4 := Lib.hid (show Rd w4 v4 (bytesV (enc n ++ writeS (parse b q))) by
        have h := Rd.of_own ho4
        rw [← bytesV_app] at h
        exact h)
      have HG4 := Lib.hid (grown_new H3.out.2.2 hg4 (fun k e => (H3.out.2.1.lt k e).1))
      clear ho4 hg4 hat4
      go_wp2
      refine bodyPost_ret (results_tmp2 rfl _ _ _) rfl ?_
      exact ⟨_, rfl, by rw [HPM.out]; exact HO4.out, HG4.out⟩
theorem wpList_dropB {ops : Array Oper} {rest : List Oper} {o : Oper} {a : Act} {w : World} {Q : Exit → Act → World → Prop} (hgd : o.guard = none) (x y : Operand) (h : o.op = .slice 22 x (some y) none none) (l : List UInt8) (k : Nat) (p : Int) (hx : Rd w (a.eval x) (bytesV l)) (hy : a.eval y = .int .i64 p) (e : p = (k : Int)) (hk : k ≤ l.length)
    (H : ∀ v', Rd w v' (bytesV (l.drop k)) → wpList Try.prog ops Q rest (a.put o.dst v') w) : wpList Try.prog ops Q (o :: rest) a w := by
  obtain ⟨v', hr, hG⟩ := st_drop k h hx hy e hk
  exact wpList_runs hgd hr (H v' hG)
theorem wpList_takeB {ops : Array Oper} {rest : List Oper} {o : Oper} {a : Act} {w : World} {Q : Exit → Act → World → Prop} (hgd : o.guard = none) (x y : Operand) (h : o.op = .slice 22 x none (some y) none) (l : List UInt8) (k : Nat) (p : Int) (hx : Rd w (a.eval x) (bytesV l)) (hy : a.eval y = .int .i64 p) (e : p = (k : Int)) (hk : k ≤ l.length)
    (H : ∀ v', Rd w v' (bytesV (l.take k)) → wpList Try.prog ops Q rest (a.put o.dst v') w) : wpList Try.prog ops Q (o :: rest) a w := by
  obtain ⟨v', hr, hG⟩ := st_take k h hx hy e hk
  exact wpList_runs hgd hr (H v' hG)
theorem numOf_eq (x : List UInt8) : O.numOf x 0 65536 = if (O.first x).2.2 = 0 then (if 65536 < (O.first x).1 then (0, x, 3) else ((O.first x).1, x.drop (O.first x).2.1, 0)) else (0, x, (O.first x).2.2) := by
  unfold O.numOf
  generalize O.first x = F
  obtain ⟨n, k, e⟩ := F
  show (if (0 : Int) = 0 then (if e = 0 then (if (65536 : Int) < n ∨ (1099511627775 : Nat) < n then (0, x, 3) else (n, x.drop k, 0)) else (0, x, e)) else (0, x, 0)) = if e = 0 then (if 65536 < n then (0, x, 3) else (n, x.drop k, 0)) else (0, x, e)
  rw [if_pos (show (0 : Int) = 0 from rfl)]
  by_cases h0 : e = 0
  · rw [if_pos h0, if_pos h0]
    by_cases h1 : 65536 < n
    · rw [if_pos (Or.inl (by omega)), if_pos h1]
    · rw [if_neg (by omega), if_neg h1]
  · rw [if_neg h0, if_neg h0]
theorem numOf_bad {x : List UInt8} (h : (O.numOf x 0 65536).2.2 ≠ 0) : unpackM x = ([], (O.numOf x 0 65536).2.2) := by
  rw [numOf_eq] at h ⊢
  unfold unpackM
  by_cases h0 : (O.first x).2.2 = 0
  · rw [if_pos h0] at h ⊢
    rw [if_pos h0]
    by_cases h1 : 65536 < (O.first x).1
    · rw [if_pos h1, if_pos h1]
    · rw [if_neg h1] at h
      exact absurd rfl h
  · rw [if_neg h0, if_neg h0]
theorem numOf_good {x : List UInt8} (h : (O.numOf x 0 65536).2.2 = 0) : ∃ n k, O.numOf x 0 65536 = (n, x.drop k, 0) ∧ n ≤ 65536 ∧ k ≤ x.length ∧ unpackM x = if (readM (x.drop k) n).2 = 0 then ((expand (readM (x.drop k) n).1).1, ((expand (readM (x.drop k) n).1).2 : Int)) else ([], ((readM (x.drop k) n).2 : Int)) := by
  refine ⟨(O.first x).1, (O.first x).2.1, ?_⟩
  rw [numOf_eq] at h ⊢
  unfold unpackM
  by_cases h0 : (O.first x).2.2 = 0
  · rw [if_pos h0] at h ⊢
    rw [if_pos h0]
    by_cases h1 : 65536 < (O.first x).1
    · rw [if_pos h1] at h
      cases h
    · rw [if_neg h1, if_neg h1]
      exact ⟨rfl, by omega, O.first_size x h0, rfl⟩
  · rw [if_neg h0] at h
    exact absurd h h0
set_option maxHeartbeats 4000000 in
theorem unpack_any (v : Value) (x : List UInt8) (w : World) (hv : Rd w v (bytesV x)) (hx : x.length ≤ 1000000) : Calls Try.prog 14 #[v] w (PaOut w (unpackM x)) := by
  have HN := Lib.hid (O.new_any _ x w hv (by omega))
  obtain ⟨A, c, rfl⟩ := hv.form
  have HV := Lib.hid hv
  have HX := Lib.hid hx
  rw [bytesV_len] at HV HN ⊢
  clear hv
  by_cases h0 : (O.numOf x 0 65536).2.2 = 0
  · obtain ⟨n, k, hn, hn6, hk, hu⟩ := numOf_good h0
    have HNU := Lib.hid (fun g W (hW : O.Rdr W g x 0) => O.rnum_at g x 0 65536 W hW (by have := HX.out; omega))
    rw [hn] at HNU
    have HU := Lib.hid hu
    have HK := Lib.hid hk
    have HN6 := Lib.hid hn6
    obtain ⟨m, hm⟩ : ∃ m, (x.drop k).length = m := ⟨_, rfl⟩
    have HER := Lib.hid (fun g W (hW : O.Rdr W g (x.drop k) 0) => O.err_at g (x.drop k) 0 W hW)
    have HLE := Lib.hid (fun g W (hW : O.Rdr W g (x.drop k) 0) => O.left_at g (x.drop k) 0 W hW)
    rw [show O.leftOf (x.drop k) 0 = m by unfold O.leftOf; rw [if_pos rfl]; exact hm] at HLE
    have hkm : x.length = k + m := by rw [List.length_drop] at hm; omega
    have hws : IntKind.i64.wrap ((x.length : Int) - (m : Int)) = (k : Int) := by rw [IntKind.wrap_i64, hkm]; omega
    have HRE := Lib.hid (fun v W (hv : Rd W v (bytesV (x.drop k))) => read_any (x.drop k) n v W hv (by rw [List.length_drop]; have := HX.out; omega) HN6.out)
    have HFT := Lib.hid (fun (h : (readM (x.drop k) n).2 = 0) => (show (readM (x.drop k) n).1.length ≤ 100000 by
      have h5 : readM (x.drop k) n = ((readM (x.drop k) n).1, 0) := by rw [← h]
      have := expand_few (read_fit HN6.out h5).1
      omega))
    have HEZ := Lib.hid (readM_errs (x.drop k) n)
    clear h0 hn hn6 hu hk hm hx hkm
    generalize hxl : x.length = xl at *
    generalize readM (x.drop k) n = Y at *
    go_enter Try.func14, Try.ntmps14
    go_wp2_with fail
    refine HN.out.mono ?_
    rintro e w1 ⟨g, rfl, hr1, hge1, hg1⟩
    have H1 := Lib.hid (And.intro hr1 (And.intro hge1 hg1))
    clear hr1 hge1 hg1 HN
    go_wp2_with fail
    refine (HNU.out g w1 H1.out.1).mono ?_
    rintro e w2 ⟨rfl, hr2, hg2⟩
    have H2 := Lib.hid (And.intro hr2 (grown_own H1.out.2.2 hg2 H1.out.2.1))
    clear hr2 hg2 HNU H1
    simp only
    go_wp2_with fail
    refine (HER.out g w2 H2.out.1).mono ?_
    rintro e w3 ⟨rfl, hw3⟩
    obtain rfl := hw3
    go_wp2_with (first
      | (go_at_call 40; refine (HLE.out g w2 H2.out.1).mono ?_; rintro e w3 ⟨rfl, hw3⟩; obtain rfl := hw3)
      | (refine wpList_dropB rfl _ _ rfl x k (k : Int) (HV.out.grown0 H2.out.2) rfl rfl (by rw [hxl]; have := HK.out; omega) ?_; intro vd hvd))
    refine (HRE.out vd w2 hvd).mono ?_
    rintro e w4 ⟨u4, rfl, ht4, hg4⟩
    have H4 := Lib.hid (And.intro ht4 (H2.out.2.trans hg4))
    clear ht4 hg4 HRE hvd
    by_cases hy : Y.2 = 0
    · have HUU := Lib.hid (show unpackM x = ((expand Y.1).1, ((expand Y.1).2 : Int)) by rw [HU.out, if_pos hy])
      have HEX := Lib.hid (expand_any Y.1 u4 w4 H4.out.1 (HFT.out hy))
      rw [hy]
      clear HU HFT
      go_wp2_with fail
      refine HEX.out.mono ?_
      rintro e w5 ⟨u5, rfl, hr5, hg5⟩
      have H5 := Lib.hid (And.intro hr5 (H4.out.2.trans hg5))
      clear hr5 hg5 HEX
      go_wp2
      refine bodyPost_ret (results_tmp2 rfl _ _ _) rfl ?_
      exact ⟨_, by rw [HUU.out]; rfl, by rw [HUU.out]; exact H5.out.1, H5.out.2⟩
    · have HUU := Lib.hid (show unpackM x = ([], (Y.2 : Int)) by rw [HU.out, if_neg hy])
      have hne : ((Y.2 : Int) == 0) = false := by rw [beq_eq_false_iff_ne]; omega
      have hne2 : (Y.2 == 0) = false := by rw [beq_eq_false_iff_ne]; exact hy
      clear HU HFT
      generalize Y.2 = z at *
      go_wp2
      refine bodyPost_ret (results_tmp2 rfl _ _ _) rfl ?_
      exact ⟨_, by rw [HUU.out]; rfl, by rw [HUU.out]; exact Rd.nil _, H4.out.2⟩
  · have HU := Lib.hid (numOf_bad h0)
    have HNU := Lib.hid (fun g W (hW : O.Rdr W g x 0) => O.rnum_at g x 0 65536 W hW (by have := HX.out; omega))
    have hne : ((O.numOf x 0 65536).2.2 != 0) = true := by simpa using h0
    generalize O.numOf x 0 65536 = Z at *
    obtain ⟨z1, z2, z3⟩ := Z
    simp only at HU HNU hne
    have HER := Lib.hid (fun g W (hW : O.Rdr W g z2 z3) => O.err_at g z2 z3 W hW)
    generalize hxl : x.length = xl at *
    clear h0
    go_enter Try.func14, Try.ntmps14
    go_wp2_with fail
    refine HN.out.mono ?_
    rintro e w1 ⟨g, rfl, hr1, hge1, hg1⟩
    have H1 := Lib.hid (And.intro hr1 (And.intro hge1 hg1))
    clear hr1 hge1 hg1 HN
    go_wp2_with fail
    refine (HNU.out g w1 H1.out.1).mono ?_
    rintro e w2 ⟨rfl, hr2, hg2⟩
    have H2 := Lib.hid (And.intro hr2 (grown_own H1.out.2.2 hg2 H1.out.2.1))
    clear hr2 hg2 HNU H1
    go_wp2_with fail
    refine (HER.out g w2 H2.out.1).mono ?_
    rintro e w3 ⟨rfl, hw3⟩
    obtain rfl := hw3
    go_wp2
    refine bodyPost_ret (results_tmp2 rfl _ _ _) rfl ?_
    exact ⟨_, by rw [HU.out]; rfl, by rw [HU.out]; exact Rd.nil _, H2.out.2⟩
end Go.Proofs.Ytibofgokdjbomaa
