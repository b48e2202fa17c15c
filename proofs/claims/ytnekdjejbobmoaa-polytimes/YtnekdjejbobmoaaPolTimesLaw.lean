/-
  The law PolyTimes, walked.
-/
import Derived.Test.YtnekdjejbobmoaaPolOps
import Derived.Test.YtnekdjejbobmoaaRpTag
namespace Go.Proofs.Ytnekdjejbobmoaa
open Go.RowKit

theorem index_half (l : List UInt8) (h : l.length = 16) (k : Nat) (hk : k < 16) (w : World) : (Instr.index 25 (.agg (bytesV l).toArray) (.int .i64 (k : Int))).run Try.prog w = .ok (.int .u8 ((l.getD k 0).toNat : Int)) w := by
  have hs : (sizeOf 5).run Try.prog w = .ok 1 w := by kernel_rfl
  have hc := bytesV_at l k (by omega)
  simp [Instr.index, asIntOf, run_underlying Try.underlying25, hs, hk, part, hc]
theorem index_17 (l : List UInt8) (h : l.length = 17) (k : Nat) (hk : k < 17) (w : World) : (Instr.index 31 (.agg (bytesV l).toArray) (.int .i64 (k : Int))).run Try.prog w = .ok (.int .u8 ((l.getD k 0).toNat : Int)) w := by
  have hs : (sizeOf 5).run Try.prog w = .ok 1 w := by kernel_rfl
  have hc := bytesV_at l k (by omega)
  simp [Instr.index, asIntOf, run_underlying Try.underlying31, hs, hk, part, hc]
theorem byt_wide (a : List UInt8) (h : a.length = 16) : byt a ++ [0, 0] = digs 256 18 (le a) := by
  have hl := le_lt a
  rw [h] at hl
  have h1 := digs_far 256 16 2 (le a) hl
  have h2 := digs_val 256 (byt a) (byt_lt a)
  rw [byt_len, h] at h2
  rw [show le a = val 256 (byt a) from rfl] at h1 ⊢
  rw [h1, h2]
  rfl
/-- A row of the call's own, where its block is as it was. -/
theorem own_at {w w' : World} {base : Nat} {e : TypeId} {v : Value} {n : Nat} {xs : List Value} (h : w.ownsRow base e 1 v n xs) (hb : ∀ g, v.ownBlock = some g → w'.heap[g]? = w.heap[g]?) : w'.ownsRow base e 1 v n xs := by
  refine ⟨h.1, ?_⟩
  rcases h.2 with h0 | ⟨g, cap, cur, rfl, hbase, hg, hrest⟩
  · exact .inl h0
  · exact .inr ⟨g, cap, cur, rfl, hbase, (hb g rfl).trans hg, hrest⟩
theorem ex_append_ints {o : Oper} {a : Act} {w : World} (x y : Operand) (ho : o.op = .call { callee := .builtin .append, args := #[x, y], argTypes := #[29, 29] })
    (base : Nat) (v : Value) (n : Nat) (xs : List Value) (hx : a.eval x = v) (hown : w.ownsRow base 3 1 v n xs) (u : Value) (l : List Nat) (hy : a.eval y = u) (hr : Rd w u (intsV l)) (hlen : n + l.length ≤ 1000000) (hbase : base ≤ w.heap.size) :
    ∃ v' w', (execOp a.eval o).run Try.prog w = .ok (.value v') w' ∧ w'.ownsRow base 3 1 v' (n + l.length) (xs ++ intsV l) ∧ w.grownBy w' v.ownBlock := by
  obtain ⟨i, hi, hz, hs1, hb⟩ := infoInt
  obtain ⟨v', w', hrun, h2, h3, h4⟩ := run_append_rd (P := Try.prog) w base 29 o.type 3 i (.int .i64 0) 8 Try.underlying29 hi hz hs1 hb rfl v n xs hown u (intsV l) hr (intsV_one _) (by rw [intsV_len]; omega) (by rw [intsV_len]; omega) hbase
  rw [intsV_len] at h2
  refine ⟨v', w', ?_, h2, h3⟩
  unfold execOp
  simp only [ho, resolve, invoke, builtin, Sem.run_bind, Sem.run_pure, Result.andThen_ok, List.map_toArray, List.map_cons, List.map_nil, hx, hy, hrun]
theorem ex_append_own {o : Oper} {a : Act} {w : World} {x y : Operand} (ho : o.op = .call { callee := .builtin .append, args := #[x, y], argTypes := #[29, 29] })
    (base g cap n : Nat) (l0 l L : List Nat) (hx : a.eval x = .slice (some ⟨g, 0, none⟩) n cap) (hown : w.ownsRow base 3 1 (.slice (some ⟨g, 0, none⟩) n cap) n (intsV l0)) (u : Value) (hy : a.eval y = u) (hr : Rd w u (intsV l)) (hlen : n + l.length ≤ 1000000) (hbase : base ≤ w.heap.size) (hL : l0 ++ l = L) :
    ∃ v' w', (execOp a.eval o).run Try.prog w = .ok (.value v') w' ∧ w.grownBy w' (some g) ∧ Rd w' v' (intsV L) := by
  obtain ⟨v', w', hrun, ho', hg'⟩ := ex_append_ints x y ho base _ n _ hx hown u l hy hr hlen hbase
  refine ⟨v', w', hrun, hg', ?_⟩
  have := Rd.of_own ho'
  rw [← intsV_app, hL] at this
  exact this
theorem GrownX.row {S : List Nat} {w w' : World} (h : GrownX S w w') {g : Nat} {t : TypeId} {cs : List Value} (hr : Row w g t cs) (hg : g ∉ S) : Row w' g t cs := (h.block g hr.lt hg).trans hr
theorem ex_zz {o : Oper} {a : Act} {w : World} (h : o.op = .buildSlice 29 2 #[(0, .const (.int .i64 0)), (1, .const (.int .i64 0))]) : (execOp a.eval o).run Try.prog w = .ok (.value (.slice (some ⟨w.heap.size, 0, none⟩) 2 2)) (w.alloc (.cells (intsV [0, 0]).toArray 3)) := by
  simp only [execOp, h]
  simp [go_sem, intsV, intV]

set_option maxHeartbeats 16000000 in
theorem polyTimes_walk (s : List UInt8) (hs : s.length = 16) (r : List UInt8) (hr : r.length = 16) (w : World) :
    Calls Try.prog 4 #[.agg (bytesV s).toArray, .agg (bytesV r).toArray] w (Awake w) := by
  generalize hG : w.heap.size = G
  have HG := Lib.hid hG
  obtain ⟨W0, hW0⟩ : ∃ W, (w.alloc (.cells (bytesV s).toArray 25)).alloc (.cells (bytesV r).toArray 25) = W := ⟨_, rfl⟩
  have R0 := Lib.hid (show Row W0 G 25 (bytesV s) by rw [← hW0]; exact (Row.newAt w _ (bytesV s) hG).alloc _)
  have R1 := Lib.hid (show Row W0 (G + 1) 25 (bytesV r) by rw [← hW0]; exact Row.newAt _ _ (bytesV r) (by simp [hG]))
  have HGR := Lib.hid (show w.grownBy W0 none by rw [← hW0]; exact grown_alloc (grown_alloc (grown_refl _ _) _) _)
  have HS := Lib.hid hs
  have HR := Lib.hid hr
  have HSL := Lib.hid (show (bytesV s).length = 16 by rw [bytesV_len, hs])
  have HRL := Lib.hid (show (bytesV r).length = 16 by rw [bytesV_len, hr])
  have HLT := Lib.hid (show G + 1 < W0.heap.size from R1.out.lt)
  have HWS := Lib.hid (show w.heap.size ≤ W0.heap.size from HGR.out.size)
  clear hs hr
  go_enter Try.func4, Try.ntmps4
  go_wp2_with (refine wpList_load_row _ rfl _ 25 rfl G 25 (bytesV s) _ rfl R0.out Try.underlying25 rfl (by rw [HSL.out]; kernel_rfl) ?_)
  clear hG hW0
  go_loopw [5, 14] (fun u i W => ∃ k : Nat, k ≤ 16 ∧ i = .int .i64 k ∧ W.ownsRow W0.heap.size 3 1 u k (intsV (byt (s.take k))) ∧ W0.grownBy W none) (fun _ i _ => 16 - (intOf i).toNat)
  case atStart => exact ⟨0, Nat.zero_le _, rfl, World.ownsRow_nil _ _ _ _, grown_refl _ _⟩
  case round =>
    obtain ⟨k, hk, rfl, ho, hg⟩ := hrel
    have HO := Lib.hid ho
    have HI := Lib.hid hg
    clear ho hg
    by_cases hlt : k < 16
    · have hidx := index_half s HS.out k hlt
      have HM1 := Lib.hid (byt_more s k (by rw [HS.out]; exact hlt))
      have hx8 := UInt8.toNat_lt (s.getD k 0)
      generalize (s.getD k 0).toNat = x at *
      have hdec : decide ((k : Int) < 16) = true := by simp; omega
      go_wp2_with (at_builtin; refine wpList_append_ints _ rfl _ _ rfl W0.heap.size _ k _ rfl (HO.out.alloc _) _ [x] rfl (Rd.int1 wr x) ?_ ?_ ?_)
      · simp; omega
      · have := HI.out.size; simp; omega
      intro v' w' ho hg hat
      have HO' := Lib.hid ho
      have HI' := Lib.hid (grown_new (grown_alloc HI.out _) hg (fun b hb => (HO.out.lt b hb).1))
      clear ho hg hat
      go_wp2
      go_roundw
      case rel =>
        refine ⟨k + 1, by omega, by go_num, ?_, HI'.out⟩
        rw [HM1.out, intsV_app]
        exact HO'.out
      case measure => simp [intOf]; omega
    · obtain rfl : k = 16 := by omega
      rw [List.take_of_length_le (by rw [HS.out]; exact Nat.le_refl _)] at HO
      have N0 := Lib.hid (R0.out.grown0 HI.out)
      have N1 := Lib.hid (R1.out.grown0 HI.out)
      have HGN := Lib.hid (HGR.out.trans HI.out)
      have HWW := Lib.hid HI.out.size
      have H1 := Lib.hid (fun w => Val.made (clamp_any r HR.out w))
      have H2 := Lib.hid (fun w => Val.made (times_any s r HS.out HR.out w))
      have HCL := Lib.hid (show (bytesV (clampB r)).length = 16 by rw [bytesV_len, clampB_len])
      have HTL := Lib.hid (show (bytesV (timesB s r)).length = 17 by rw [bytesV_len, timesB_len])
      clear hk hlt R0 R1 HGR HI
      go_wp2
      refine wp_region_walk3 7 [] dis_nil (by kernel_rfl) (by kernel_rfl) (by kernel_rfl) ?_
      simp only [List.take_succ_cons, List.take_zero, List.drop_succ_cons, List.drop_zero]
      refine Walk.val (G := Is (.agg (bytesV r).toArray)) (stays_is _ _) rfl rfl (fun a w hm hd => ⟨wanted_plain rfl, _, ex_load_row rfl (G + 1) 25 _ _ (by rw [hm.outer 3 (by kernel_rfl)]; rfl) (N1.out.grown0 hm.grow.none2) Try.underlying25 rfl (by rw [HRL.out]; kernel_rfl), rfl⟩) ?_
      refine Walk.call (G := Is (.agg (bytesV (clampB r)).toArray)) (stays_is _ _) rfl 13 rfl (fun a w hm ha hd => ⟨wanted_plain rfl, _, ex_call1 Try.func13 (by kernel_rfl) (by kernel_rfl) rfl, by rw [show a.eval (.tmp 23) = _ from hd.at_ 0 rfl rfl rfl rfl]; exact H1.out w⟩) ?_
      refine Walk.val (G := Is (.agg (bytesV s).toArray)) (stays_is _ _) rfl rfl (fun a w hm hd => ⟨wanted_plain rfl, _, ex_load_row rfl G 25 _ _ (by rw [hm.outer 2 (by kernel_rfl)]; rfl) (N0.out.grown0 hm.grow.none2) Try.underlying25 rfl (by rw [HSL.out]; kernel_rfl), rfl⟩) ?_
      refine Walk.val (G := Is (.agg (bytesV r).toArray)) (stays_is _ _) rfl rfl (fun a w hm hd => ⟨wanted_plain rfl, _, ex_load_row rfl (G + 1) 25 _ _ (by rw [hm.outer 3 (by kernel_rfl)]; rfl) (N1.out.grown0 hm.grow.none2) Try.underlying25 rfl (by rw [HRL.out]; kernel_rfl), rfl⟩) ?_
      refine Walk.call (G := Is (.agg (bytesV (timesB s r)).toArray)) (stays_is _ _) rfl 14 rfl (fun a w hm ha hd => ⟨wanted_plain rfl, _, ex_call2 Try.func14 (by kernel_rfl) (by kernel_rfl) rfl, by rw [show a.eval (.tmp 25) = _ from hd.at_ 2 rfl rfl rfl rfl, show a.eval (.tmp 26) = _ from hd.at_ 3 rfl rfl rfl rfl]; exact H2.out w⟩) ?_
      refine Walk.make (G := fun v W' => ∃ g, v = .pointer (some ⟨g, 0, none⟩) ∧ Row W' g 25 (noughts8 16) ∧ wr.heap.size ≤ g) (fun _ _ _ _ _ ⟨g, h1, h2, h3⟩ hg => ⟨g, h1, h2.grown0 hg, h3⟩) rfl rfl (fun a w hm _ hd => ⟨wanted_plain rfl, _, _, ex_alloc16 rfl, grown_alloc (grown_refl _ _) _, _, rfl, Row.new w _ _, hm.grow.none2.size⟩) ?_
      refine Walk.make (G := fun v W' => ∃ g, v = .pointer (some ⟨g, 0, none⟩) ∧ Row W' g 31 (noughts8 17) ∧ wr.heap.size ≤ g) (fun _ _ _ _ _ ⟨g, h1, h2, h3⟩ hg => ⟨g, h1, h2.grown0 hg, h3⟩) rfl rfl (fun a w hm _ hd => ⟨wanted_plain rfl, _, _, ex_alloc17 rfl, grown_alloc (grown_refl _ _) _, _, rfl, Row.new w _ _, hm.grow.none2.size⟩) ?_
      intro a w7 hm hall
      have f24 : a.eval (.tmp 24) = .agg (bytesV (clampB r)).toArray := hall 1 _ _ rfl rfl
      have f27 : a.eval (.tmp 27) = .agg (bytesV (timesB s r)).toArray := hall 4 _ _ rfl rfl
      obtain ⟨g8, f8, r8, hg8⟩ := hall 5 _ _ rfl rfl
      obtain ⟨g9, f9, r9, hg9⟩ := hall 6 _ _ rfl rfl
      have f8' : a.eval (.tmp 8) = .pointer (some ⟨g8, 0, none⟩) := f8
      have f9' : a.eval (.tmp 9) = .pointer (some ⟨g9, 0, none⟩) := f9
      have hne : g8 ≠ g9 := by
        intro e
        refine hm.apart 5 6 _ _ 8 9 (by decide) (by decide) (by decide) rfl rfl rfl rfl rfl rfl ?_ ?_ ?_
        · rw [f8']; exact fun h => by cases h
        · rw [f9']; exact fun h => by cases h
        · rw [f8', f9', e]
      have hfr := hm.frame
      simp only [List.take_succ_cons, List.take_zero, List.filterMap_cons, List.filterMap_nil, List.foldl_cons, List.foldl_nil, f8', f9'] at hfr
      generalize he23 : a.eval (.tmp 23) = e23 at hfr f24 f27
      generalize he24 : a.eval (.tmp 24) = e24 at hfr f24 f27
      generalize he25 : a.eval (.tmp 25) = e25 at hfr f24 f27
      generalize he26 : a.eval (.tmp 26) = e26 at hfr f24 f27
      generalize he27 : a.eval (.tmp 27) = e27 at hfr f24 f27
      have HFR := Lib.hid hfr
      have hl := HLT.out
      have hww := HWW.out
      refine wpList_store_row _ rfl rfl _ _ 25 rfl g8 25 (noughts8 16) (bytesV (clampB r)) f8' (he24.trans f24) r8 (by rw [HCL.out]; rfl) (bytesV_one _) (by rw [HCL.out]; kernel_rfl) ?_
      intro w8 hr8 hg8'
      refine wpList_store_row _ rfl rfl _ _ 31 rfl g9 31 (noughts8 17) (bytesV (timesB s r)) f9' (he27.trans f27) (r9.grown hg8' (by simpa using Ne.symm hne)) (by rw [HTL.out]; rfl) (bytesV_one _) (by rw [HTL.out]; kernel_rfl) ?_
      intro w9 hr9 hg9'
      have hgn : wr.grownBy w7 none := hm.grow.none2
      have hgw9 : wr.grownBy w9 none := grown_own (grown_own hgn hg8' hg8) hg9' hg9
      have M1 := Lib.hid (N1.out.grown0 hgw9)
      have M2 := Lib.hid (hr8.grown hg9' (by simpa using hne))
      have M3 := Lib.hid hr9
      have HGM := Lib.hid (HGN.out.trans hgw9)
      have hown := HO.out
      have HOM := Lib.hid (own_at hown (fun g hg => hgw9.block g (hown.lt g hg).2 (by simp)))
      have HLT9 := Lib.hid (show G + 1 < wr.heap.size ∧ wr.heap.size ≤ g8 ∧ wr.heap.size ≤ g9 ∧ wr.heap.size ≤ w9.heap.size ∧ w.heap.size ≤ wr.heap.size by have h1 := hgw9.size; have h2 := HGN.out.size; omega)
      have HOB := Lib.hid (fun g (hg : u5.ownBlock = some g) => (hown.lt g hg))
      clear hr8 hg8' hr9 hg9' hgn hgw9 hfr hall hm f24 f27 f8 f9 f8' f9' hne r8 r9 hl hww N0 N1 HGN H1 H2 hg8 hg9 hown HO
      clear he23
      clear he24
      clear he25
      clear he26
      clear he27
      have hfr := HFR.out
      clear HFR
      unfold wpList
      rw [hfr]
      clear hfr
      go_simp
      go_wp2
      have M1d := Lib.hid M1.out.drew
      have M2d := Lib.hid M2.out.drew
      have M3d := Lib.hid M3.out.drew
      have hform : ∃ g cap, u5 = .slice (some ⟨g, 0, none⟩) 16 cap := by
        rcases HOM.out.2 with ⟨_, h⟩ | ⟨g, cap, cur, h, _⟩
        · cases h
        · exact ⟨g, cap, h⟩
      obtain ⟨g, cap, rfl⟩ := hform
      have hgb := HOB.out g rfl
      have hl9 := HLT9.out
      have HGB := Lib.hid (show W0.heap.size ≤ g ∧ g < wr.heap.size from hgb)
      have HW0 := Lib.hid (show w.heap.size ≤ W0.heap.size ∧ G + 1 < W0.heap.size from ⟨HWS.out, HLT.out⟩)
      clear hgb hl9 HOB
      refine wp_region_walk3 5 [(2, g)] (dis_one 2 g) (by kernel_rfl) (by kernel_rfl) (by kernel_rfl) ?_
      simp only [List.take_succ_cons, List.take_zero, List.drop_succ_cons, List.drop_zero]
      refine Walk.val (G := Is (.slice (some ⟨g, 0, none⟩) 16 cap)) (stays_is _ _) rfl rfl (fun a w hm hd => ⟨wanted_plain rfl, _, ex_move rfl, (by rw [hm.outer 5 (by kernel_rfl)]; rfl)⟩) ?_
      refine Walk.make (G := fun v W => ∃ g', v = .slice (some ⟨g', 0, none⟩) 2 2 ∧ Row W g' 3 (intsV [0, 0]) ∧ g' ≠ g) (stays_all (fun _ _ _ ⟨g', h1, h2, h3⟩ hg => ⟨g', h1, h2.grown0 hg, h3⟩) (by
        intro q hq
        obtain rfl : q = g := by simpa using hq
        exact fun _ _ _ ⟨g', h1, h2, h3⟩ hg => ⟨g', h1, h2.grown hg (by simpa using h3), h3⟩) _) rfl rfl (fun a w hm _ hd => ⟨wanted_plain rfl, _, _, ex_zz rfl, grown_alloc (grown_refl _ _) _, _, rfl, Row.new w _ _, by
          have h1 := hm.grow.size
          have h2 := HGB.out
          have h3 := HLT9.out
          have h4 : w9.drew.heap.size = w9.heap.size := rfl
          omega⟩) ?_
      refine Walk.make (G := fun v W => Rd W v (intsV (digs 256 18 (le s)))) (stays_own (dis_one 2 g) rfl (fun _ _ _ h hg => Rd.grown0 h hg) (by
        intro q hq hne
        exact absurd (by simpa using hq) hne)) rfl rfl (fun a w hm hah hd => ⟨wanted_plain rfl, by
          have h28 : a.eval (.tmp 28) = _ := hd.at_ 0 rfl rfl rfl rfl
          obtain ⟨g', h29, hr29, _⟩ := hd.at_ (G := fun v W => ∃ g', v = .slice (some ⟨g', 0, none⟩) 2 2 ∧ Row W g' 3 (intsV [0, 0]) ∧ g' ≠ g) 1 rfl rfl rfl rfl
          have hlt9 : g < w9.heap.size := by have h2 := HGB.out; have h3 := HLT9.out; omega
          have hown := own_at HOM.out (w' := w) (fun x hx => by cases hx; exact hah g rfl hlt9)
          exact ex_append_own rfl W0.heap.size g cap 16 (byt s) [0, 0] _ h28 hown _ h29 (hr29.rds 2 2 rfl (by decide) (by decide)) (by decide) (by have h1 := hm.grow.size; have h3 := HLT9.out; have h2 := HGB.out; have h4 : w9.drew.heap.size = w9.heap.size := rfl; omega) (byt_wide s HS.out)⟩) ?_
      refine Walk.val (G := Is (.slice (some ⟨G + 1, 0, none⟩) 16 16)) (stays_is _ _) rfl rfl (fun a w hm hd => ⟨wanted_plain rfl, _, ex_all16 rfl (by rw [hm.outer 3 (by kernel_rfl)]; rfl), rfl⟩) ?_
      refine Walk.call (G := fun v W => Rd W v (bytesV (clampB r)) ∧ ∀ b, v.ownBlock = some b → b ≠ g) (stays_all (fun _ _ _ ⟨h1, h2⟩ hg => ⟨h1.grown0 hg, h2⟩) (by
        intro q hq
        obtain rfl : q = g := by simpa using hq
        exact fun _ _ _ ⟨h1, h2⟩ hg => ⟨h1.grown hg (fun b hb e => h2 b hb (by simpa using e)), h2⟩) _) rfl 16 rfl (fun a w hm ha hd => ⟨wanted_plain rfl, _, ex_call1 Try.func16 (by kernel_rfl) (by kernel_rfl) rfl, by
          rw [show a.eval (.tmp 31) = _ from hd.at_ 3 rfl rfl rfl rfl]
          have h2 := HGB.out
          have h3 := HLT9.out
          have h5 := HW0.out
          have hrow := hm.grow.row M1d.out (by simp; omega)
          refine (rclamp_any _ r HR.out w (hrow.rds 16 16 HRL.out (by decide) (by decide))).mono ?_
          rintro e w' ⟨v, rfl, hv, hg, hnew⟩
          refine ⟨v, rfl, hg, hv, fun b hb => ?_⟩
          have h1 := hm.grow.size
          have h4 : w9.drew.heap.size = w9.heap.size := rfl
          have h6 := (hnew b hb).1
          omega⟩) ?_
      intro a9 V hm9 hall
      have h30 : Rd V (a9.eval (.tmp 30)) (intsV (digs 256 18 (le s))) := hall 2 _ _ rfl rfl
      have h32 : Rd V (a9.eval (.tmp 32)) (bytesV (clampB r)) := (hall 4 _ _ rfl rfl).1
      have hgx := hm9.grow
      have h2 := HGB.out
      have h3 := HLT9.out
      have h5 := HW0.out
      have K1 := Lib.hid (hgx.row M1d.out (by simp; omega))
      have K2 := Lib.hid (hgx.row M2d.out (by simp; omega))
      have K3 := Lib.hid (hgx.row M3d.out (by simp; omega))
      have hgV : w9.grownBy V (some g) := ⟨hgx.os, hgx.tape, hgx.output, hgx.size, fun k hk hne => hgx.block k hk (by simpa using hne)⟩
      have HGK := Lib.hid (grown_own HGM.out hgV (by omega))
      have HFR := Lib.hid hm9.frame
      rw [HFR.out]
      simp only [List.take_succ_cons, List.take_zero, List.filterMap_cons, List.filterMap_nil, List.foldl_cons, List.foldl_nil]
      have H30 := Lib.hid h30
      have H32 := Lib.hid h32
      clear h30 h32 hgx h2 h3 h5 hgV HFR hall
      generalize a9.eval (.tmp 28) = e28 at *
      generalize a9.eval (.tmp 29) = e29 at *
      generalize a9.eval (.tmp 30) = e30 at *
      generalize a9.eval (.tmp 31) = e31 at *
      generalize a9.eval (.tmp 32) = e32 at *
      clear hm9 M1 M2 M3 M1d M2d M3d HGM HOM
      simp only [Act.put, List.setIfInBounds_toArray, List.set_cons_succ, List.set_cons_zero]
      go_wp2_with fail
      refine (rtimes_any e30 e32 (le s) (by have := le_lt s; rw [HS.out] at this; omega) (clampB r) (clampB_len r) V H30.out H32.out).mono ?_
      rintro e w10 ⟨v10, rfl, hr10, hg10⟩
      obtain ⟨A10, c10, rfl⟩ := hr10.form
      rw [intsV_len, digs_len] at hr10 ⊢
      have HW := Lib.hid hr10
      have L1 := Lib.hid (K1.out.grown0 hg10)
      have L2 := Lib.hid (K2.out.grown0 hg10)
      have L3 := Lib.hid (K3.out.grown0 hg10)
      have HGL := Lib.hid (HGK.out.trans hg10)
      clear hr10 hg10 K1 K2 K3 HGK H30 H32
      go_wp2_with (refine wpList_load_row _ rfl _ 31 rfl g9 31 (bytesV (timesB s r)) _ rfl L3.out Try.underlying31 rfl (by rw [HTL.out]; kernel_rfl) ?_)
      go_loopw [35] (fun i W => ∃ k : Nat, k ≤ 17 ∧ i = .int .i64 k ∧ W = w10) (fun i _ => 17 - (intOf i).toNat)
      case atStart => exact ⟨0, Nat.zero_le _, rfl, rfl⟩
      case round =>
        obtain ⟨k, hk, rfl, hw⟩ := hrel
        subst hw
        by_cases hlt : k < 17
        · have hidx := index_17 (timesB s r) (timesB_len s r) k hlt
          rw [show timesB s r = leB 17 (le s * le (clampB r) % PP) from rfl, leB_at 17 _ k hlt] at hidx
          obtain ⟨ad, rfl, hc0⟩ := HW.out.num k (by rw [digs_len]; omega)
          rw [digs_at 256 18 _ k (by omega)] at hc0
          have hx8 : le s * le (clampB r) % PP / 256 ^ k % 256 < 256 := Nat.mod_lt _ (by decide)
          rw [show bytesV (leB 17 (le s * le (clampB r) % PP)) = bytesV (timesB s r) from rfl] at hidx
          generalize le s * le (clampB r) % PP / 256 ^ k % 256 = x at *
          have hdec : decide ((k : Int) < 17) = true := by simp; omega
          go_wp2
          go_roundw
          case rel => exact ⟨k + 1, by omega, by go_num, by first | rfl | trivial⟩
          case measure => simp [intOf]; omega
        · have H1 := Lib.hid (fun w => Val.made (clamp_any (clampB r) (clampB_len r) w))
          rw [clampB_clampB] at H1
          have H2 := Lib.hid (fun v W (h : Rd W v (bytesV r)) => rclamp_any v r HR.out W h)
          have HCC := Lib.hid (clampB_len r)
          have HCL' := Lib.hid (show (bytesV (clampB r)).length = 16 from HCL.out)
          generalize clampB r = Z at *
          have hdec : decide ((k : Int) < 17) = false := by simp; omega
          clear hk hlt
          go_wp2
          refine wp_region_steps none (by kernel_rfl) (by kernel_rfl) (by kernel_rfl) ?_
          refine Steps.val (G := IsB Z) (lasts_bytes _) rfl (fun a w hm hd => ⟨wanted_plain rfl, _, ex_all16 rfl (by rw [hm.outer 8 (by kernel_rfl)]; rfl), (L2.out.grown0 hm.grow).rds 16 16 HCL'.out (by decide) (by decide)⟩) ?_
          refine Steps.val (G := Is (.string ⟨(Z).toArray⟩)) (lasts_is _) rfl (fun a w hm hd => ⟨wanted_plain rfl, _, ex_str rfl (hd.at_ 0 rfl rfl rfl), rfl⟩) ?_
          refine Steps.val (G := IsB r) (lasts_bytes _) rfl (fun a w hm hd => ⟨wanted_plain rfl, _, ex_all16 rfl (by rw [hm.outer 3 (by kernel_rfl)]; rfl), (L1.out.grown0 hm.grow).rds 16 16 HRL.out (by decide) (by decide)⟩) ?_
          refine Steps.call (G := IsB Z) (lasts_bytes _) rfl 16 (fun a w hm hd => ⟨wanted_plain rfl, _, ex_call1 Try.func16 (by kernel_rfl) (by kernel_rfl) rfl, by
            have h1 : IsB r (a.eval (.tmp 49)) w := hd.at_ 2 rfl rfl rfl
            refine (H2.out _ w h1).mono ?_
            rintro e w' ⟨v, rfl, hv, hg, _⟩
            exact ⟨v, rfl, hg, hv⟩⟩) ?_
          refine Steps.val (G := Is (.string ⟨(Z).toArray⟩)) (lasts_is _) rfl (fun a w hm hd => ⟨wanted_plain rfl, _, ex_str rfl (hd.at_ 3 rfl rfl rfl), rfl⟩) ?_
          refine Steps.val (G := Is (.bool true)) (lasts_is _) rfl (fun a w hm hd => ⟨wanted_plain rfl, _, ex_eqs rfl (hd.at_ 1 rfl rfl rfl) (hd.at_ 4 rfl rfl rfl), rfl⟩) ?_
          refine Steps.val (G := Is (.bool true)) (lasts_is _) rfl (fun a w hm hd => ⟨wanted_plain rfl, _, ex_move rfl, hd.at_ 5 rfl rfl rfl⟩) ?_
          refine Steps.val (G := Is (.agg (bytesV Z).toArray)) (lasts_is _) rfl (fun a w hm hd => ⟨wanted_at rfl rfl (hd.at_ 6 rfl rfl rfl), _, ex_load_row rfl g8 25 _ _ (by rw [hm.outer 8 (by kernel_rfl)]; rfl) (L2.out.grown0 hm.grow) Try.underlying25 rfl (by rw [HCL'.out]; kernel_rfl), rfl⟩) ?_
          refine Steps.call (G := Is (.agg (bytesV Z).toArray)) (lasts_is _) rfl 13 (fun a w hm hd => ⟨wanted_at rfl rfl (hd.at_ 6 rfl rfl rfl), _, ex_call1 Try.func13 (by kernel_rfl) (by kernel_rfl) rfl, by
            rw [show a.eval (.tmp 54) = _ from hd.at_ 7 rfl rfl rfl]
            exact H1.out w⟩) ?_
          refine Steps.val (G := Is (.agg (bytesV Z).toArray)) (lasts_is _) rfl (fun a w hm hd => ⟨wanted_at rfl rfl (hd.at_ 6 rfl rfl rfl), _, ex_load_row rfl g8 25 _ _ (by rw [hm.outer 8 (by kernel_rfl)]; rfl) (L2.out.grown0 hm.grow) Try.underlying25 rfl (by rw [HCL'.out]; kernel_rfl), rfl⟩) ?_
          refine Steps.val (G := Is (.bool true)) (lasts_is _) rfl (fun a w hm hd => ⟨wanted_at rfl rfl (hd.at_ 6 rfl rfl rfl), _, ex_eq16 rfl HCC.out (hd.at_ 8 rfl rfl rfl) (hd.at_ 9 rfl rfl rfl), rfl⟩) ?_
          refine Steps.val (G := Is (.bool true)) (lasts_is _) rfl (fun a w hm hd => ⟨wanted_plain rfl, _, ex_pick rfl (hd.at_ 6 rfl rfl rfl) (hd.at_ 10 rfl rfl rfl), rfl⟩) ?_
          refine Steps.val (G := Is (.bool true)) (lasts_is _) rfl (fun a w hm hd => ⟨wanted_plain rfl, _, ex_move rfl, hd.at_ 11 rfl rfl rfl⟩) ?_
          refine Steps.call (G := Is (.bool true)) (lasts_is _) rfl 10 (fun a w hm hd => ⟨wanted_at rfl rfl (hd.at_ 12 rfl rfl rfl), _, ex_call0 Try.func10 (by kernel_rfl) (by kernel_rfl) rfl, by
            refine (awake_any w).mono ?_
            rintro e w' ⟨rfl, hg⟩
            exact ⟨_, rfl, hg, rfl⟩⟩) ?_
          refine Steps.val (G := Is (.bool true)) (lasts_is _) rfl (fun a w hm hd => ⟨wanted_plain rfl, _, ex_pick rfl (hd.at_ 12 rfl rfl rfl) (hd.at_ 13 rfl rfl rfl), rfl⟩) ?_
          refine Steps.val (G := Is (.bool true)) (lasts_is _) rfl (fun a w hm hd => ⟨wanted_plain rfl, _, ex_assign rfl, hd.at_ 14 rfl rfl rfl⟩) ?_
          intro a V hmid hall
          have h2 : a.eval (.tmp 4) = .bool true := hall 15 _ 4 rfl rfl
          have hdf : a.defers = [] := hmid.defers
          have hgr := hmid.grow
          clear hall hmid
          obtain ⟨tm, df⟩ := a
          simp only at hdf
          subst hdf
          go_wp2
          go_ret
          exact ⟨congrArg Ending.returned h2, HGL.out.trans hgr⟩
end Go.Proofs.Ytnekdjejbobmoaa
