/-
  The walk of the law DeriveParted.
-/
import Derived.Test.YtmhcfbfdbminnaaDoorDerLessLaw
import Derived.Test.YtmhcfbfdbminnaaDoorDerPartsLaw
namespace Go.Proofs.YtmhcfbfdbminnaaDoor
open Go.RowKit

section
variable {o : Oper} {a : Act} {w : World}
theorem ex_sliceTo32 {x : Operand} {ad : Addr} {n c : Nat} (h : o.op = .slice 22 x none (some (.const (.int .i64 32))) none) (hx : Is (.slice (some ad) n c) (a.eval x) w) (hk : 32 ≤ c) : (execOp a.eval o).run Tryd.prog w = .ok (.value (.slice (some ad) 32 c)) w :=
  ex_sliceTo (k := 32) h hx rfl hk
theorem ex_sliceFrom32 {x : Operand} {ad : Addr} (h : o.op = .slice 22 x (some (.const (.int .i64 32))) none none) (hx : Is (.slice (some ad) 64 64) (a.eval x) w) : (execOp a.eval o).run Tryd.prog w = .ok (.value (.slice (some (ad.add 32)) 32 32)) w := by
  have hx' : a.eval x = .slice (some ad) 64 64 := hx
  have hc : a.eval (.const (.int .i64 32)) = .int .i64 32 := rfl
  simp only [execOp, h, hx', hc, Option.map_some, Option.map_none]
  simp [go_sem]
end
/-- The first 64 bytes that are derived: two parts. -/
theorem derived64 (s t q : List UInt8) : derived s t q 64 = part (hmac t s) q 1 ++ part (hmac t s) q 2 := by
  rw [← derived_of s t q 64 2 (by decide)]
  have e : parts (hmac t s) q 2 = part (hmac t s) q 1 ++ part (hmac t s) q 2 := by simp [parts]
  rw [e, List.take_of_length_le]
  rw [List.length_append, part_len, part_len]
  decide
theorem part_one (p q : List UInt8) : hmac p [q, [1]].flatten = part p q 1 := by simp [part]
theorem part_two (p q : List UInt8) : hmac p [part p q 1, q, [2]].flatten = part p q 2 := by simp [part]

set_option maxHeartbeats 4000000 in
theorem deriveParted_walk (A0 : Option Addr) (n0 c0 : Nat) (l0 : List UInt8) (A1 : Option Addr) (n1 c1 : Nat) (l1 : List UInt8) (A2 : Option Addr) (n2 c2 : Nat) (l2 : List UInt8) (w : World) (hT : Tab w) (hr0 : Rd w (.slice A0 n0 c0) (bytesV l0)) (hr1 : Rd w (.slice A1 n1 c1) (bytesV l1)) (hr2 : Rd w (.slice A2 n2 c2) (bytesV l2)) :
    Calls Tryd.prog 9 #[.slice A0 n0 c0, .slice A1 n1 c1, .slice A2 n2 c2] w (Awake w) := by
  have HR0 := Lib.hid hr0
  have HR1 := Lib.hid hr1
  have HR2 := Lib.hid hr2
  have HT := Lib.hid hT
  clear hr0 hr1 hr2 hT
  by_cases ha : 100 < n0
  · have ba : decide (100 < (n0 : Int)) = true := by simp; omega
    go_enter Tryd.func9, Tryd.ntmps9
    go_wp2_with fail
    refine (awake_any _ HT.out).mono ?_
    rintro e w1 ⟨rfl, hg1⟩
    go_wp2
    go_ret
    exact ⟨rfl, hg1⟩
  · have ba : decide (100 < (n0 : Int)) = false := by simp; omega
    by_cases hb : 100 < n1
    · have bb : decide (100 < (n1 : Int)) = true := by simp; omega
      go_enter Tryd.func9, Tryd.ntmps9
      go_wp2_with fail
      refine (awake_any _ HT.out).mono ?_
      rintro e w1 ⟨rfl, hg1⟩
      go_wp2
      go_ret
      exact ⟨rfl, hg1⟩
    · have bb : decide (100 < (n1 : Int)) = false := by simp; omega
      by_cases hc : 100 < n2
      · have bc : decide (100 < (n2 : Int)) = true := by simp; omega
        go_enter Tryd.func9, Tryd.ntmps9
        go_wp2_with fail
        refine (awake_any _ HT.out).mono ?_
        rintro e w1 ⟨rfl, hg1⟩
        go_wp2
        go_ret
        exact ⟨rfl, hg1⟩
      · have bc : decide (100 < (n2 : Int)) = false := by simp; omega
        have HQ := Lib.hid (show l2.length ≤ 100 by have := HR2.out.len.1; rw [bytesV_len] at this; omega)
        have hl0 := HR0.out.len.1
        rw [bytesV_len] at hl0
        have hk := key_at A0 n0 c0 l0 A1 n1 c1 l1 A2 n2 c2 l2 64 w HT.out HR0.out HR1.out HR2.out (by decide) (by omega) (by omega) (by omega)
        have HN := Lib.hid (show n0 ≤ 100 ∧ n1 ≤ 100 ∧ n2 ≤ 100 ∧ l0.length ≤ 100 by omega)
        have HK := Lib.hid hk
        clear hk hl0 ha hb hc
        go_enter Tryd.func9, Tryd.ntmps9
        go_wp2_with fail
        refine HK.out.mono ?_
        rintro e w1 ⟨g1, rfl, hk1, hg1, _, _⟩
        rw [derived_len] at hk1 ⊢
        rw [derived64] at hk1
        have RK := Lib.hid hk1
        have HG1 := Lib.hid hg1
        have HC := Lib.hid (code_one A1 n1 c1 l1 (.slice A0 n0 c0) l0 w1 w1.heap.size rfl (HT.out.grown hg1) (HR1.out.grown0 hg1) (HR0.out.grown0 hg1) (by have := HN.out; omega) (by have := HN.out; omega))
        have HPL := Lib.hid (hmac_len l1 l0)
        generalize hmac l1 l0 = p at *
        clear hk1 hg1 HK
        go_wp2_with fail
        refine HC.out.mono ?_
        rintro e w2 ⟨rfl, hg2⟩
        have hg12 : w1.grownBy w2 none := (grown_alloc (grown_refl _ _) _).trans hg2
        have HG2 := Lib.hid hg12
        have HP32 := Lib.hid (show (bytesV p).length = 32 by rw [bytesV_len, HPL.out])
        clear hg2 hg12 HC
        go_wp2_with (refine wpList_store_row _ rfl rfl _ _ _ rfl w2.heap.size 24 (noughts8 32) (bytesV p) rfl rfl (Row.new w2 24 (noughts8 32)) ?_ (bytesV_one _) ?_ ?_)
        · rw [HP32.out]; rfl
        · rw [HP32.out]; kernel_rfl
        intro W hrW hgW
        have hg2W : w2.grownBy W none := grown_own (grown_alloc (grown_refl _ _) _) hgW (Nat.le_refl _)
        have HGR := Lib.hid ((HG1.out.trans HG2.out).trans hg2W)
        have RP := Lib.hid hrW
        have RK' := Lib.hid (RK.out.grown0 (HG2.out.trans hg2W))
        have RQ := Lib.hid (HR2.out.grown0 HGR.out)
        have HX := Lib.hid (And.intro (show (part p l2 1).length = 32 from part_len p l2 0) (And.intro (show (part p l2 2).length = 32 from part_len p l2 1) (And.intro (part_one p l2) (part_two p l2))))
        have RT := Lib.hid (show Rd W (.slice (some ⟨g1, 0, none⟩) 32 64) (bytesV (part p l2 1)) by
          have h := RK'.out.take (n := 32) (d := 64) (by decide) (by decide) (by decide)
          have e : (bytesV (part p l2 1 ++ part p l2 2)).take 32 = bytesV (part p l2 1) := by
            rw [bytesV_app, List.take_append_of_le_length (by rw [bytesV_len, part_len]; decide), List.take_of_length_le (by rw [bytesV_len, part_len]; decide)]
          rw [e] at h
          exact h)
        have RD := Lib.hid (show Rd W (.slice (some ((⟨g1, 0, none⟩ : Addr).add 32)) 32 32) (bytesV (part p l2 2)) by
          have h := RK'.out.drop (n := 32) (by decide)
          have e : (bytesV (part p l2 1 ++ part p l2 2)).drop 32 = bytesV (part p l2 2) := by
            rw [bytesV_app, List.drop_append, List.drop_of_length_le (by rw [bytesV_len, part_len]; decide), List.nil_append, bytesV_len, part_len]
            rfl
          rw [e] at h
          exact h)
        generalize w2.heap.size = gp at *
        clear hrW hgW hg2W RK HG1 HG2
        go_wp2_with fail
        refine wp_region_walk3 14 [] dis_nil (by kernel_rfl) (by kernel_rfl) (by kernel_rfl) ?_
        simp only [List.take_succ_cons, List.take_zero, List.drop_succ_cons, List.drop_zero]
        refine Walk.val (G := Is (.slice (some ⟨gp, 0, none⟩) 32 32)) (stays_is _ _) rfl rfl (fun a w hm hd => ⟨wanted_plain rfl, _, ex_slice32 rfl (by rw [hm.outer 8 (by kernel_rfl)]; rfl), rfl⟩) ?_
        refine Walk.val (G := Is (.slice A2 n2 c2)) (stays_is _ _) rfl rfl (fun a w hm hd => ⟨wanted_plain rfl, _, ex_move rfl, (by rw [hm.outer 2 (by kernel_rfl)]; exact rfl)⟩) ?_
        refine Walk.make (G := IsB [1]) (fun _ _ _ _ _ h hg => Rd.grown0 h hg) rfl rfl (fun a w hm _ hd => ⟨wanted_plain rfl, _, _, ex_build1B (b0 := 1) rfl rfl, grown_alloc (grown_refl _ _) _, Rd.one w (byteV 1) 5⟩) ?_
        refine Walk.make (G := fun v W => ∃ u, Rd W v [.slice A2 n2 c2, u] ∧ IsB [1] u W) (fun _ _ _ _ _ ⟨u, h1, h2⟩ hg => ⟨u, h1.grown0 hg, Rd.grown0 h2 hg⟩) rfl rfl (fun a w hm _ hd => ⟨wanted_plain rfl, by
          have h1 : a.eval (.tmp 37) = _ := hd.at_ 1 rfl rfl rfl rfl
          have h3 : IsB [1] (a.eval (.tmp 38)) w := hd.at_ 2 rfl rfl rfl rfl
          obtain ⟨Au, cu, hu⟩ := Rd.form h3
          exact ⟨_, _, ex_build2S rfl h1 rfl rfl hu, grown_alloc (grown_refl _ _) _, _, Rd.new w [_, _] 22 (0, 0) 2 (Nat.le_refl _) (by decide), Rd.alloc h3 _⟩⟩) ?_
        refine Walk.call (G := Is (.agg (bytesV (part p l2 1)).toArray)) (stays_is _ _) rfl 11 rfl (fun a w hm _ hd => ⟨wanted_plain rfl, _, ex_call2 Tryd.func11 (by kernel_rfl) (by kernel_rfl) rfl, by
          obtain ⟨u, h1, h2⟩ := hd.at_ (G := fun v W => ∃ u, Rd W v [.slice A2 n2 c2, u] ∧ IsB [1] u W) 3 rfl rfl rfl rfl
          have h0 : a.eval (.tmp 36) = _ := hd.at_ 0 rfl rfl rfl rfl
          rw [h0]
          have hgn := hm.grow.none'
          have hTw := HT.out.grown (HGR.out.trans hgn)
          have hp : Parts w [.slice A2 n2 c2, u] [l2, [1]] := (Parts.cons (RQ.out.grown0 hgn) (Parts.cons h2 (Parts.nil _)))
          have hof := code_any (some ⟨gp, 0, none⟩) 32 32 p _ _ _ w hTw ((RP.out.grown0 hgn).rds 32 32 HP32.out (by decide) (by decide)) h1 hp (by decide) (by simp) (by have := HQ.out; have := HX.out.1; simp; omega)
          rw [HX.out.2.2.1] at hof
          refine hof.mono ?_
          rintro e w' ⟨rfl, hg⟩
          exact ⟨_, rfl, hg, rfl⟩⟩) ?_
        refine Walk.val (G := Is (.slice (some ⟨gp, 0, none⟩) 32 32)) (stays_is _ _) rfl rfl (fun a w hm hd => ⟨wanted_plain rfl, _, ex_slice32 rfl (by rw [hm.outer 8 (by kernel_rfl)]; rfl), rfl⟩) ?_
        refine Walk.val (G := Is (.slice (some ⟨g1, 0, none⟩) 64 64)) (stays_is _ _) rfl rfl (fun a w hm hd => ⟨wanted_plain rfl, _, ex_move rfl, (by rw [hm.outer 7 (by kernel_rfl)]; exact rfl)⟩) ?_
        refine Walk.val (G := Is (.slice (some ⟨g1, 0, none⟩) 32 64)) (stays_is _ _) rfl rfl (fun a w hm hd => ⟨wanted_plain rfl, _, ex_sliceTo32 rfl (hd.at_ 6 rfl rfl rfl rfl) (by decide), rfl⟩) ?_
        refine Walk.val (G := Is (.slice A2 n2 c2)) (stays_is _ _) rfl rfl (fun a w hm hd => ⟨wanted_plain rfl, _, ex_move rfl, (by rw [hm.outer 2 (by kernel_rfl)]; exact rfl)⟩) ?_
        refine Walk.make (G := IsB [2]) (fun _ _ _ _ _ h hg => Rd.grown0 h hg) rfl rfl (fun a w hm _ hd => ⟨wanted_plain rfl, _, _, ex_build1B (b0 := 2) rfl rfl, grown_alloc (grown_refl _ _) _, Rd.one w (byteV 2) 5⟩) ?_
        refine Walk.make (G := fun v W => ∃ u, Rd W v [.slice (some ⟨g1, 0, none⟩) 32 64, .slice A2 n2 c2, u] ∧ IsB [2] u W) (fun _ _ _ _ _ ⟨u, h1, h2⟩ hg => ⟨u, h1.grown0 hg, Rd.grown0 h2 hg⟩) rfl rfl (fun a w hm _ hd => ⟨wanted_plain rfl, by
          have h0 : a.eval (.tmp 43) = _ := hd.at_ 7 rfl rfl rfl rfl
          have h1 : a.eval (.tmp 44) = _ := hd.at_ 8 rfl rfl rfl rfl
          have h3 : IsB [2] (a.eval (.tmp 45)) w := hd.at_ 9 rfl rfl rfl rfl
          obtain ⟨Au, cu, hu⟩ := Rd.form h3
          exact ⟨_, _, ex_build3S rfl h0 h1 rfl rfl rfl hu, grown_alloc (grown_refl _ _) _, _, Rd.new w [_, _, _] 22 (0, 0) 3 (Nat.le_refl _) (by decide), Rd.alloc h3 _⟩⟩) ?_
        refine Walk.call (G := Is (.agg (bytesV (part p l2 2)).toArray)) (stays_is _ _) rfl 11 rfl (fun a w hm _ hd => ⟨wanted_plain rfl, _, ex_call2 Tryd.func11 (by kernel_rfl) (by kernel_rfl) rfl, by
          obtain ⟨u, h1, h2⟩ := hd.at_ (G := fun v W => ∃ u, Rd W v [.slice (some ⟨g1, 0, none⟩) 32 64, .slice A2 n2 c2, u] ∧ IsB [2] u W) 10 rfl rfl rfl rfl
          have h0 : a.eval (.tmp 41) = _ := hd.at_ 5 rfl rfl rfl rfl
          rw [h0]
          have hgn := hm.grow.none'
          have hTw := HT.out.grown (HGR.out.trans hgn)
          have hp : Parts w [.slice (some ⟨g1, 0, none⟩) 32 64, .slice A2 n2 c2, u] [part p l2 1, l2, [2]] := (Parts.cons (RT.out.grown0 hgn) (Parts.cons (RQ.out.grown0 hgn) (Parts.cons h2 (Parts.nil _))))
          have hof := code_any (some ⟨gp, 0, none⟩) 32 32 p _ _ _ w hTw ((RP.out.grown0 hgn).rds 32 32 HP32.out (by decide) (by decide)) h1 hp (by decide) (by simp) (by have := HQ.out; have := HX.out.1; simp; omega)
          rw [HX.out.2.2.2] at hof
          refine hof.mono ?_
          rintro e w' ⟨rfl, hg⟩
          exact ⟨_, rfl, hg, rfl⟩⟩) ?_
        refine Walk.make (G := fun v W' => ∃ g, v = .pointer (some ⟨g, 0, none⟩) ∧ Row W' g 24 (noughts8 32) ∧ W.heap.size ≤ g) (fun _ _ _ _ _ ⟨g, h1, h2, h3⟩ hg => ⟨g, h1, h2.grown0 hg, h3⟩) rfl rfl (fun a w hm _ hd => ⟨wanted_plain rfl, _, _, ex_alloc32 rfl, grown_alloc (grown_refl _ _) _, _, rfl, Row.new w _ _, hm.grow.none'.size⟩) ?_
        refine Walk.make (G := fun v W' => ∃ g, v = .pointer (some ⟨g, 0, none⟩) ∧ Row W' g 24 (noughts8 32) ∧ W.heap.size ≤ g) (fun _ _ _ _ _ ⟨g, h1, h2, h3⟩ hg => ⟨g, h1, h2.grown0 hg, h3⟩) rfl rfl (fun a w hm _ hd => ⟨wanted_plain rfl, _, _, ex_alloc32 rfl, grown_alloc (grown_refl _ _) _, _, rfl, Row.new w _ _, hm.grow.none'.size⟩) ?_
        intro a w7 hm hall
        have f4 : a.eval (.tmp 40) = .agg (bytesV (part p l2 1)).toArray := hall 4 _ _ rfl rfl
        have f11 : a.eval (.tmp 47) = .agg (bytesV (part p l2 2)).toArray := hall 11 _ _ rfl rfl
        obtain ⟨g9, f12, r9, hg9⟩ := hall 12 _ _ rfl rfl
        obtain ⟨g10, f13, r10, hg10⟩ := hall 13 _ _ rfl rfl
        have f12' : a.eval (.tmp 9) = .pointer (some ⟨g9, 0, none⟩) := f12
        have f13' : a.eval (.tmp 10) = .pointer (some ⟨g10, 0, none⟩) := f13
        have hne : g9 ≠ g10 := by
          intro e
          refine hm.apart 12 13 _ _ 9 10 (by decide) (by decide) (by decide) rfl rfl rfl rfl rfl rfl ?_ ?_ ?_
          · rw [f12']; exact fun h => by cases h
          · rw [f13']; exact fun h => by cases h
          · rw [f12', f13', e]
        have f0 : a.eval (.tmp 36) = _ := hall 0 _ _ rfl rfl
        have f1 : a.eval (.tmp 37) = _ := hall 1 _ _ rfl rfl
        have f5 : a.eval (.tmp 41) = _ := hall 5 _ _ rfl rfl
        have f6 : a.eval (.tmp 42) = _ := hall 6 _ _ rfl rfl
        have f7 : a.eval (.tmp 43) = _ := hall 7 _ _ rfl rfl
        have f8 : a.eval (.tmp 44) = _ := hall 8 _ _ rfl rfl
        have hfr := hm.frame
        simp only [List.take_succ_cons, List.take_zero, List.filterMap_cons, List.filterMap_nil, List.foldl_cons, List.foldl_nil, f0, f1, f4, f5, f6, f7, f8, f11, f12', f13'] at hfr
        generalize a.eval (.tmp 38) = e38 at hfr
        generalize a.eval (.tmp 39) = e39 at hfr
        generalize a.eval (.tmp 45) = e45 at hfr
        generalize a.eval (.tmp 46) = e46 at hfr
        have HFR := Lib.hid hfr
        have h1L : (bytesV (part p l2 1)).length = 32 := by rw [bytesV_len, HX.out.1]
        have h2L : (bytesV (part p l2 2)).length = 32 := by rw [bytesV_len, HX.out.2.1]
        refine wpList_store_row _ rfl rfl _ _ _ rfl g9 24 (noughts8 32) (bytesV (part p l2 1)) f12' f4 r9 (by rw [h1L]; rfl) (bytesV_one _) (by rw [h1L]; kernel_rfl) ?_
        intro w8 hr8 hg8
        refine wpList_store_row _ rfl rfl _ _ _ rfl g10 24 (noughts8 32) (bytesV (part p l2 2)) f13' f11 (r10.grown hg8 (by simpa using Ne.symm hne)) (by rw [h2L]; rfl) (bytesV_one _) (by rw [h2L]; kernel_rfl) ?_
        intro w9 hr9 hg9'
        have hgW9 : W.grownBy w9 none := grown_own (grown_own hm.grow.none' hg8 hg9) hg9' hg10
        have RX := Lib.hid (hr8.grown hg9' (by simpa using hne))
        have RY := Lib.hid hr9
        have HG9 := Lib.hid hgW9
        have HL1 := Lib.hid h1L
        have HL2 := Lib.hid h2L
        have HGR' := Lib.hid (HGR.out.trans hgW9)
        clear hr8 hg8 hr9 hg9' hgW9 h1L h2L hfr hall hm f0 f1 f4 f5 f6 f7 f8 f11 f12 f13 f12' f13' hne r9 r10 hg9 hg10
        have hfr := HFR.out
        clear HFR
        unfold wpList
        rw [hfr]
        clear hfr
        go_simp
        go_wp2_with fail
        clear HGR
        have HGR := HGR'
        clear HGR'
        refine wp_region_steps none (by kernel_rfl) (by kernel_rfl) (by kernel_rfl) ?_
        refine Steps.val (G := Is (.slice (some ⟨g1, 0, none⟩) 64 64)) (lasts_is _) rfl (fun a w hm hd => ⟨wanted_plain rfl, _, ex_move rfl, (by rw [hm.outer 7 (by kernel_rfl)]; exact rfl)⟩) ?_
        refine Steps.val (G := IsB (part p l2 1)) (lasts_bytes _) rfl (fun a w hm hd => ⟨wanted_plain rfl, _, ex_sliceTo32 rfl (hd.at_ 0 rfl rfl rfl) (by decide), RT.out.grown0 (HG9.out.trans hm.grow)⟩) ?_
        refine Steps.val (G := Is (.string ⟨(part p l2 1).toArray⟩)) (lasts_is _) rfl (fun a w hm hd => ⟨wanted_plain rfl, _, ex_str rfl (hd.at_ 1 rfl rfl rfl), rfl⟩) ?_
        refine Steps.val (G := IsB (part p l2 1)) (lasts_bytes _) rfl (fun a w hm hd => ⟨wanted_plain rfl, _, ex_slice32 rfl (by rw [hm.outer 9 (by kernel_rfl)]; rfl), (RX.out.grown0 hm.grow).rds 32 32 HL1.out (by decide) (by decide)⟩) ?_
        refine Steps.val (G := Is (.string ⟨(part p l2 1).toArray⟩)) (lasts_is _) rfl (fun a w hm hd => ⟨wanted_plain rfl, _, ex_str rfl (hd.at_ 3 rfl rfl rfl), rfl⟩) ?_
        refine Steps.val (G := Is (.bool true)) (lasts_is _) rfl (fun a w hm hd => ⟨wanted_plain rfl, _, ex_eqs rfl (hd.at_ 2 rfl rfl rfl) (hd.at_ 4 rfl rfl rfl), rfl⟩) ?_
        refine Steps.val (G := Is (.bool true)) (lasts_is _) rfl (fun a w hm hd => ⟨wanted_plain rfl, _, ex_move rfl, hd.at_ 5 rfl rfl rfl⟩) ?_
        refine Steps.val (G := Is (.slice (some ⟨g1, 0, none⟩) 64 64)) (lasts_is _) rfl (fun a w hm hd => ⟨wanted_at rfl rfl (hd.at_ 6 rfl rfl rfl), _, ex_move rfl, (by rw [hm.outer 7 (by kernel_rfl)]; exact rfl)⟩) ?_
        refine Steps.val (G := IsB (part p l2 2)) (lasts_bytes _) rfl (fun a w hm hd => ⟨wanted_at rfl rfl (hd.at_ 6 rfl rfl rfl), _, ex_sliceFrom32 rfl (hd.at_ 7 rfl rfl rfl), RD.out.grown0 (HG9.out.trans hm.grow)⟩) ?_
        refine Steps.val (G := Is (.string ⟨(part p l2 2).toArray⟩)) (lasts_is _) rfl (fun a w hm hd => ⟨wanted_at rfl rfl (hd.at_ 6 rfl rfl rfl), _, ex_str rfl (hd.at_ 8 rfl rfl rfl), rfl⟩) ?_
        refine Steps.val (G := IsB (part p l2 2)) (lasts_bytes _) rfl (fun a w hm hd => ⟨wanted_at rfl rfl (hd.at_ 6 rfl rfl rfl), _, ex_slice32 rfl (by rw [hm.outer 10 (by kernel_rfl)]; rfl), (RY.out.grown0 hm.grow).rds 32 32 HL2.out (by decide) (by decide)⟩) ?_
        refine Steps.val (G := Is (.string ⟨(part p l2 2).toArray⟩)) (lasts_is _) rfl (fun a w hm hd => ⟨wanted_at rfl rfl (hd.at_ 6 rfl rfl rfl), _, ex_str rfl (hd.at_ 10 rfl rfl rfl), rfl⟩) ?_
        refine Steps.val (G := Is (.bool true)) (lasts_is _) rfl (fun a w hm hd => ⟨wanted_at rfl rfl (hd.at_ 6 rfl rfl rfl), _, ex_eqs rfl (hd.at_ 9 rfl rfl rfl) (hd.at_ 11 rfl rfl rfl), rfl⟩) ?_
        refine Steps.val (G := Is (.bool true)) (lasts_is _) rfl (fun a w hm hd => ⟨wanted_plain rfl, _, ex_pick rfl (hd.at_ 6 rfl rfl rfl) (hd.at_ 12 rfl rfl rfl), rfl⟩) ?_
        refine Steps.val (G := Is (.bool true)) (lasts_is _) rfl (fun a w hm hd => ⟨wanted_plain rfl, _, ex_move rfl, hd.at_ 13 rfl rfl rfl⟩) ?_
        refine Steps.call (G := Is (.bool true)) (lasts_is _) rfl 10 (fun a w hm hd => ⟨wanted_at rfl rfl (hd.at_ 14 rfl rfl rfl), _, ex_call0 Tryd.func10 (by kernel_rfl) (by kernel_rfl) rfl, by
          refine (awake_any w (HT.out.grown (HGR.out.trans hm.grow))).mono ?_
          rintro e w' ⟨rfl, hg⟩
          exact ⟨_, rfl, hg, rfl⟩⟩) ?_
        refine Steps.val (G := Is (.bool true)) (lasts_is _) rfl (fun a w hm hd => ⟨wanted_plain rfl, _, ex_pick rfl (hd.at_ 14 rfl rfl rfl) (hd.at_ 15 rfl rfl rfl), rfl⟩) ?_
        refine Steps.val (G := Is (.bool true)) (lasts_is _) rfl (fun a w hm hd => ⟨wanted_plain rfl, _, ex_assign rfl, hd.at_ 16 rfl rfl rfl⟩) ?_
        intro a w2 hmid hall
        have h2 : a.eval (.tmp 6) = .bool true := hall 17 _ 6 rfl rfl
        have hdf : a.defers = [] := hmid.defers
        have hgr := hmid.grow
        clear hall hmid
        obtain ⟨tm, df⟩ := a
        simp only at hdf
        subst hdf
        go_wp2
        go_ret
        exact ⟨congrArg Ending.returned h2, HGR.out.trans hgr⟩
end Go.Proofs.YtmhcfbfdbminnaaDoor
