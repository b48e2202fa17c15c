/-
  The walk of the law DigestBlock.
-/
import Derived.Test.YtibpjmbnllmahaaDoorRefOf
import Derived.Test.YtibpjmbnllmahaaDoorDigPadsLaw
namespace Go.Proofs.YtibpjmbnllmahaaDoor
open Go.RowKit

section
variable {o : Oper} {a : Act} {w : World}
theorem ex_sliceAll64 {x : Operand} {g : Nat} (h : o.op = .slice 31 x none none none) (hx : a.eval x = .pointer (some ⟨g, 0, none⟩)) : (execOp a.eval o).run Tryd.prog w = .ok (.value (.slice (some ⟨g, 0, none⟩) 64 64)) w := by
  simp only [execOp, h, hx, Option.map_none]
  simp [go_sem, Instr.sliceAt, Instr.sliceBounds, Addr.add]
theorem ex_conv32 {x : Operand} {n : Nat} (h : o.op = .convert 29 3 x) (hx : Is (.int .u32 (n : Int)) (a.eval x) w) (hn : n < 4294967296) : (execOp a.eval o).run Tryd.prog w = .ok (.value (.int .i64 (n : Int))) w := by
  have hx' : a.eval x = .int .u32 (n : Int) := hx
  have hw : IntKind.i64.wrap (n : Int) = (n : Int) := by rw [IntKind.wrap_i64]; omega
  simp only [execOp, h, hx']
  simp [go_sem, hw]
theorem ex_neqi {x y : Operand} {n : Int} (h : o.op = .binOp .neq 3 x y 3) (hx : Is (.int .i64 n) (a.eval x) w) (hy : Is (.int .i64 n) (a.eval y) w) : (execOp a.eval o).run Tryd.prog w = .ok (.value (.bool false)) w := by
  have hx' : a.eval x = .int .i64 n := hx
  have hy' : a.eval y = .int .i64 n := hy
  simp only [execOp, h, hx', hy']
  simp [go_sem]
theorem ex_index8 {x y : Operand} {l : List W32} (hl : l.length = 8) {k : Nat} (hk : k < 8) (h : o.op = .index 30 x y) (hx : Is (.agg (wordsV l).toArray) (a.eval x) w) (hy : Is (.int .i64 (k : Int)) (a.eval y) w) : (execOp a.eval o).run Tryd.prog w = .ok (.value (.int .u32 ((l.getD k 0).toNat : Int))) w := by
  have hx' : a.eval x = .agg (wordsV l).toArray := hx
  have hy' : a.eval y = .int .i64 (k : Int) := hy
  have hr := run_index_words 30 8 Tryd.underlying30 l hl k hk w
  simp only [execOp, h, hx', hy', Sem.run_bind, hr, Result.andThen_ok, Sem.run_pure]
end
theorem stays_rdI (l : List Nat) (j : Nat) : StaysBut [] j (fun v W => Rd W v (intsV l)) := fun _ _ _ _ _ h hg => h.grown0 hg
theorem stays_rdB (l : List UInt8) (j : Nat) : StaysBut [] j (fun v W => Rd W v (bytesV l)) := fun _ _ _ _ _ h hg => h.grown0 hg
theorem startN_at : ∀ i : Fin 8, startN.getD i.val 0 = (start.getD i.val 0).toNat := by decide

set_option maxHeartbeats 4000000 in
theorem digestBlock_walk (s : List W32) (hs : s.length = 8) (b : List UInt8) (hb : b.length = 64) (w : World) (hT : Tab w) :
    Calls Tryd.prog 5 #[.agg (wordsV s).toArray, .agg (bytesV b).toArray] w (Awake w) := by
  have HS := Lib.hid hs
  have HB := Lib.hid hb
  have HT := Lib.hid hT
  have HWV := Lib.hid (show (wordsV s).length = 8 by rw [wordsV_len, hs])
  have HBV := Lib.hid (show (bytesV b).length = 64 by rw [bytesV_len, hb])
  have HI := Lib.hid (fun k hk w => run_index_words 30 8 Tryd.underlying30 s hs k hk w)
  have hbl := blk_len s b hs
  have HBL := Lib.hid hbl
  have HI2 := Lib.hid (fun k hk w => run_index_words 30 8 Tryd.underlying30 (blk s b) hbl k hk w)
  clear hs hb hT hbl
  generalize hG : w.heap.size = G
  have HG := Lib.hid hG
  have r1 := (Row.newAt w 30 (wordsV s) HG.out).alloc (.cells (bytesV b).toArray 31)
  have r2 := Row.newAt (w.alloc (.cells (wordsV s).toArray 30)) 31 (bytesV b) (g := G + 1) (by simp [HG.out])
  have hg := grown_alloc (grown_alloc (grown_refl w none) (.cells (wordsV s).toArray 30)) (.cells (bytesV b).toArray 31)
  have R1 := Lib.hid r1
  have R2 := Lib.hid r2
  have HGR := Lib.hid hg
  clear r1 r2 hg
  go_enter Tryd.func5, Tryd.ntmps5
  go_wp2_with (refine wpList_load_row _ rfl _ _ rfl G 30 (wordsV s) _ rfl R1.out Tryd.underlying30 rfl (by rw [HWV.out]; kernel_rfl) ?_)
  clear hG
  generalize ((w.alloc (.cells (wordsV s).toArray 30)).alloc (.cells (bytesV b).toArray 31)) = W0 at *
  go_loopw [5, 13] (fun u i W => ∃ k : Nat, k ≤ 8 ∧ i = .int .i64 k ∧ W.ownsRow W0.heap.size 3 1 u k (intsV (wn (s.take k))) ∧ W0.grownBy W none) (fun _ i _ => 8 - (intOf i).toNat)
  case atStart => exact ⟨0, Nat.zero_le _, rfl, World.ownsRow_nil _ _ _ _, grown_refl _ _⟩
  case round =>
    obtain ⟨k, hk, rfl, ho, hgr⟩ := hrel
    have HO := Lib.hid ho
    have HV := Lib.hid hgr
    clear ho hgr
    by_cases hlt : k < 8
    · have hidx := HI.out k hlt
      have HTK := Lib.hid (wn_take_succ s k (by rw [HS.out]; exact hlt))
      have hx := (s.getD k 0).isLt
      generalize s.getD k 0 = x at *
      go_wp2_with (at_builtin; refine wpList_append_ints _ rfl _ _ rfl W0.heap.size _ k _ rfl (HO.out.alloc _) _ [x.toNat] rfl ?_ ?_ ?_ ?_)
      · exact Rd.int1 _ _
      · first | omega | (simp; omega)
      · have := HV.out.size; first | omega | (simp; omega)
      · intro v' w' ho hg hat
        have HO' := Lib.hid ho
        have HG' := Lib.hid hg
        clear ho hg hat
        go_wp2
        go_roundw
        case rel =>
          refine ⟨k + 1, by omega, by go_num, ?_, grown_new (grown_alloc HV.out _) HG'.out (fun b hb => (HO.out.lt b hb).1)⟩
          rw [HTK.out, intsV_app]
          exact HO'.out
        case measure => simp [intOf]; omega
    · have h8 : s.take k = s := List.take_of_length_le (by rw [HS.out]; omega)
      have hrs := Rd.of_own HO.out
      rw [h8] at hrs
      have HRS := Lib.hid hrs
      have R2' := Lib.hid (R2.out.grown0 HV.out)
      have R1' := Lib.hid (R1.out.grown0 HV.out)
      have HV0 := Lib.hid (HGR.out.trans HV.out)
      have hq8 : decide ((k : Int) < 8) = false := by simp; omega
      clear h8 hrs hk hlt HO
      go_wp2
      clear hq8
      refine wp_region_walk 5 [] dis_nil (by kernel_rfl) (by kernel_rfl) (by kernel_rfl) ?_
      simp only [List.take_succ_cons, List.take_zero, List.drop_succ_cons, List.drop_zero]
      refine Walk.val (G := fun v W => Rd W v (intsV (wn s))) (stays_rdI _ _) rfl rfl (fun a w hm hd => ⟨wanted_plain rfl, _, ex_move rfl, by rw [hm.outer 5 (by kernel_rfl)]; exact HRS.out.grown0 hm.grow.none2⟩) ?_
      refine Walk.val (G := fun v W => Rd W v (bytesV b)) (stays_rdB _ _) rfl rfl (fun a w hm hd => ⟨wanted_plain rfl, _, ex_sliceAll64 rfl (by rw [hm.outer 3 (by kernel_rfl)]; rfl), (R2'.out.grown0 hm.grow.none2).rd 64 64 HBV.out (by decide) (by decide)⟩) ?_
      refine Walk.call (G := fun v W => Rd W v (intsV kN)) (stays_rdI _ _) rfl 13 rfl (fun a w hm _ hd => ⟨wanted_plain rfl, _, ex_call0 Tryd.func13 (by kernel_rfl) (by kernel_rfl) rfl, (refTable_any w).mono (fun _ _ ⟨v, he, hr, hg⟩ => ⟨v, he, hg, hr⟩)⟩) ?_
      refine Walk.call (G := fun v W => Rd W v (intsV (wn (blk s b)))) (stays_rdI _ _) rfl 12 rfl (fun a w hm _ hd => ⟨wanted_plain rfl, _, ex_call3 Tryd.func12 (by kernel_rfl) (by kernel_rfl) rfl, (refBlock_any _ _ _ s HS.out b HB.out w (hd.at_ (G := fun v W => Rd W v (intsV (wn s))) 0 rfl rfl rfl rfl) (hd.at_ (G := fun v W => Rd W v (bytesV b)) 1 rfl rfl rfl rfl) (hd.at_ (G := fun v W => Rd W v (intsV kN)) 2 rfl rfl rfl rfl)).mono (fun _ _ ⟨v, he, hr, hg⟩ => ⟨v, he, hg, hr⟩)⟩) ?_
      refine Walk.call (G := fun v W => Rd W v (intsV startN)) (stays_rdI _ _) rfl 14 rfl (fun a w hm _ hd => ⟨wanted_plain rfl, _, ex_call0 Tryd.func14 (by kernel_rfl) (by kernel_rfl) rfl, (refStart_any w).mono (fun _ _ ⟨v, he, hr, hg⟩ => ⟨v, he, hg, hr⟩)⟩) ?_
      intro a9 w7 hm7 hall
      have f25 : Rd w7 (a9.eval (.tmp 25)) (intsV (wn (blk s b))) := hall 3 _ _ rfl rfl
      have f26 : Rd w7 (a9.eval (.tmp 26)) (intsV startN) := hall 4 _ _ rfl rfl
      have hfr := hm7.frame
      simp only [List.take_succ_cons, List.take_zero, List.filterMap_cons, List.filterMap_nil, List.foldl_cons, List.foldl_nil] at hfr
      have hg7 : wr.grownBy w7 none := GrownX.none2 hm7.grow
      generalize a9.eval (.tmp 22) = e22 at hfr
      generalize a9.eval (.tmp 23) = e23 at hfr
      generalize a9.eval (.tmp 24) = e24 at hfr
      generalize a9.eval (.tmp 25) = e25 at hfr f25
      generalize a9.eval (.tmp 26) = e26 at hfr f26
      have R1'' := Lib.hid (R1'.out.grown0 hg7)
      have R2'' := Lib.hid (R2'.out.grown0 hg7)
      have HV7 := Lib.hid (HV0.out.trans hg7)
      have e25l : (intsV (wn (blk s b))).length = 8 := by rw [intsV_len, wn_len, HBL.out]
      obtain ⟨A8, c8, rfl⟩ := f25.form
      obtain ⟨A9, c9, rfl⟩ := f26.form
      rw [e25l] at f25 hfr
      rw [show (intsV startN).length = 8 from rfl] at f26 hfr
      obtain ⟨ad8, rfl, hz8⟩ := f25.num 0 (by rw [wn_len, HBL.out]; decide)
      obtain ⟨ad9, rfl, hz9⟩ := f26.num 0 (by decide)
      have HF25 := Lib.hid f25
      have HF26 := Lib.hid f26
      clear hz8 hz9 e25l f25 f26 hall hm7 hg7 HRS R1' R2' HV0
      rw [hfr]
      clear hfr
      go_wp2_with (first
        | refine wpList_load_row _ rfl _ _ rfl G 30 (wordsV s) _ rfl R1''.out Tryd.underlying30 rfl (by rw [HWV.out]; kernel_rfl) ?_
        | refine wpList_load_row _ rfl _ _ rfl (G + 1) 31 (bytesV b) _ rfl R2''.out Tryd.underlying31 rfl (by rw [HBV.out]; kernel_rfl) ?_)
      refine (block_any s HS.out b HB.out w7 (HT.out.grown HV7.out)).mono ?_
      rintro e w8 ⟨rfl, hg8⟩
      have HV8 := Lib.hid (HV7.out.trans hg8)
      have HF25' := Lib.hid (HF25.out.grown0 hg8)
      have HF26' := Lib.hid (HF26.out.grown0 hg8)
      clear hg8 HV7 HF25 HF26
      go_wp2
      go_loopw [30] (fun i W => ∃ q : Nat, q ≤ 8 ∧ i = .int .i64 q ∧ w8.grownBy W none) (fun i _ => 8 - (intOf i).toNat)
      case atStart => exact ⟨0, Nat.zero_le _, rfl, grown_refl _ _⟩
      case round =>
        obtain ⟨q, hq, rfl, hgr⟩ := hrel
        have HQ := Lib.hid hgr
        clear hgr
        by_cases hlt : q < 8
        · have hidx := HI2.out q hlt
          obtain ⟨ad8', he8, hc8⟩ := (HF25'.out.grown0 HQ.out).num q (by rw [wn_len, HBL.out]; exact hlt)
          cases he8
          rw [wn_at _ _ (by rw [HBL.out]; exact hlt)] at hc8
          obtain ⟨ad9', he9, hc9⟩ := (HF26'.out.grown0 HQ.out).num q hlt
          cases he9
          rw [startN_at ⟨q, hlt⟩] at hc9
          have hy := ((blk s b).getD q 0).isLt
          have hz := (start.getD q 0).isLt
          generalize (blk s b).getD q 0 = y at *
          have HC8 := Lib.hid hc8
          have HC9 := Lib.hid hc9
          have HLQ := Lib.hid hlt
          have HY := Lib.hid hy
          have HZ := Lib.hid hz
          clear hc8 hc9 hy hz
          go_wp2
          refine wp_region_walk 18 [] dis_nil (by kernel_rfl) (by kernel_rfl) (by kernel_rfl) ?_
          simp only [List.take_succ_cons, List.take_zero, List.drop_succ_cons, List.drop_zero]
          refine Walk.val (G := Is (.int .u32 (y.toNat : Int))) (stays_is _ _) rfl rfl (fun a w hm hd => ⟨wanted_plain rfl, _, ex_move rfl, (by rw [hm.outer 11 (by kernel_rfl)]; exact rfl)⟩) ?_
          refine Walk.val (G := Is (.int .i64 (y.toNat : Int))) (stays_is _ _) rfl rfl (fun a w hm hd => ⟨wanted_plain rfl, _, ex_conv32 rfl (hd.at_ 0 rfl rfl rfl rfl) HY.out, rfl⟩) ?_
          refine Walk.val (G := Is (.slice (some ad8) 8 c8)) (stays_is _ _) rfl rfl (fun a w hm hd => ⟨wanted_plain rfl, _, ex_move rfl, (by rw [hm.outer 8 (by kernel_rfl)]; exact rfl)⟩) ?_
          refine Walk.val (G := Is (.int .i64 (q : Int))) (stays_is _ _) rfl rfl (fun a w hm hd => ⟨wanted_plain rfl, _, ex_move rfl, (by rw [hm.outer 10 (by kernel_rfl)]; exact rfl)⟩) ?_
          refine Walk.val (G := Is (.pointer (some (ad8.add q)))) (stays_is _ _) rfl rfl (fun a w hm hd => ⟨wanted_plain rfl, _, ex_idx rfl (hd.at_ 2 rfl rfl rfl rfl) (hd.at_ 3 rfl rfl rfl rfl) HLQ.out, rfl⟩) ?_
          refine Walk.val (G := Is (.int .i64 (y.toNat : Int))) (stays_is _ _) rfl rfl (fun a w hm hd => ⟨wanted_plain rfl, _, ex_loadI rfl (hd.at_ 4 rfl rfl rfl rfl) ((World.cell?_of_block (hm.grow.none2.block _ (World.block_lt_of_cell? wr _ HC8.out) (by simp))).trans HC8.out), rfl⟩) ?_
          refine Walk.val (G := Is (.bool false)) (stays_is _ _) rfl rfl (fun a w hm hd => ⟨wanted_plain rfl, _, ex_neqi rfl (hd.at_ 1 rfl rfl rfl rfl) (hd.at_ 5 rfl rfl rfl rfl), rfl⟩) ?_
          refine Walk.val (G := Is (.bool false)) (stays_is _ _) rfl rfl (fun a w hm hd => ⟨wanted_plain rfl, _, ex_move rfl, (hd.at_ 6 rfl rfl rfl rfl)⟩) ?_
          refine Walk.call (G := Is (.agg (wordsV start).toArray)) (stays_is _ _) rfl 16 rfl (fun a w hm _ hd => ⟨wanted_at rfl rfl (hd.at_ 7 rfl rfl rfl rfl), _, ex_call0 Tryd.func16 (by kernel_rfl) (by kernel_rfl) rfl, (start_any w).mono (fun _ _ ⟨he, hg⟩ => ⟨_, he, hg, rfl⟩)⟩) ?_
          refine Walk.val (G := Is (.int .i64 (q : Int))) (stays_is _ _) rfl rfl (fun a w hm hd => ⟨wanted_at rfl rfl (hd.at_ 7 rfl rfl rfl rfl), _, ex_move rfl, (by rw [hm.outer 10 (by kernel_rfl)]; exact rfl)⟩) ?_
          refine Walk.val (G := Is (.int .u32 ((start.getD q 0).toNat : Int))) (stays_is _ _) rfl rfl (fun a w hm hd => ⟨wanted_at rfl rfl (hd.at_ 7 rfl rfl rfl rfl), _, ex_index8 start_len HLQ.out rfl (hd.at_ 8 rfl rfl rfl rfl) (hd.at_ 9 rfl rfl rfl rfl), rfl⟩) ?_
          refine Walk.val (G := Is (.int .i64 ((start.getD q 0).toNat : Int))) (stays_is _ _) rfl rfl (fun a w hm hd => ⟨wanted_at rfl rfl (hd.at_ 7 rfl rfl rfl rfl), _, ex_conv32 rfl (hd.at_ 10 rfl rfl rfl rfl) HZ.out, rfl⟩) ?_
          refine Walk.val (G := Is (.slice (some ad9) 8 c9)) (stays_is _ _) rfl rfl (fun a w hm hd => ⟨wanted_at rfl rfl (hd.at_ 7 rfl rfl rfl rfl), _, ex_move rfl, (by rw [hm.outer 9 (by kernel_rfl)]; exact rfl)⟩) ?_
          refine Walk.val (G := Is (.int .i64 (q : Int))) (stays_is _ _) rfl rfl (fun a w hm hd => ⟨wanted_at rfl rfl (hd.at_ 7 rfl rfl rfl rfl), _, ex_move rfl, (by rw [hm.outer 10 (by kernel_rfl)]; exact rfl)⟩) ?_
          refine Walk.val (G := Is (.pointer (some (ad9.add q)))) (stays_is _ _) rfl rfl (fun a w hm hd => ⟨wanted_at rfl rfl (hd.at_ 7 rfl rfl rfl rfl), _, ex_idx rfl (hd.at_ 12 rfl rfl rfl rfl) (hd.at_ 13 rfl rfl rfl rfl) HLQ.out, rfl⟩) ?_
          refine Walk.val (G := Is (.int .i64 ((start.getD q 0).toNat : Int))) (stays_is _ _) rfl rfl (fun a w hm hd => ⟨wanted_at rfl rfl (hd.at_ 7 rfl rfl rfl rfl), _, ex_loadI rfl (hd.at_ 14 rfl rfl rfl rfl) ((World.cell?_of_block (hm.grow.none2.block _ (World.block_lt_of_cell? wr _ HC9.out) (by simp))).trans HC9.out), rfl⟩) ?_
          refine Walk.val (G := Is (.bool false)) (stays_is _ _) rfl rfl (fun a w hm hd => ⟨wanted_at rfl rfl (hd.at_ 7 rfl rfl rfl rfl), _, ex_neqi rfl (hd.at_ 11 rfl rfl rfl rfl) (hd.at_ 15 rfl rfl rfl rfl), rfl⟩) ?_
          refine Walk.val (G := Is (.bool false)) (stays_is _ _) rfl rfl (fun a w hm hd => ⟨wanted_plain rfl, _, ex_pickF rfl (hd.at_ 7 rfl rfl rfl rfl) (hd.at_ 16 rfl rfl rfl rfl), rfl⟩) ?_
          intro a9 w7 hm7 hall
          have f17 : a9.eval (.tmp 51) = .bool false := hall 17 _ _ rfl rfl
          have hfr := hm7.frame
          simp only [List.take_succ_cons, List.take_zero, List.filterMap_cons, List.filterMap_nil, List.foldl_cons, List.foldl_nil, f17] at hfr
          have hg7 : wr.grownBy w7 none := GrownX.none2 hm7.grow
          generalize a9.eval (.tmp 34) = e34 at hfr
          generalize a9.eval (.tmp 35) = e35 at hfr
          generalize a9.eval (.tmp 36) = e36 at hfr
          generalize a9.eval (.tmp 37) = e37 at hfr
          generalize a9.eval (.tmp 38) = e38 at hfr
          generalize a9.eval (.tmp 39) = e39 at hfr
          generalize a9.eval (.tmp 40) = e40 at hfr
          generalize a9.eval (.tmp 41) = e41 at hfr
          generalize a9.eval (.tmp 42) = e42 at hfr
          generalize a9.eval (.tmp 43) = e43 at hfr
          generalize a9.eval (.tmp 44) = e44 at hfr
          generalize a9.eval (.tmp 45) = e45 at hfr
          generalize a9.eval (.tmp 46) = e46 at hfr
          generalize a9.eval (.tmp 47) = e47 at hfr
          generalize a9.eval (.tmp 48) = e48 at hfr
          generalize a9.eval (.tmp 49) = e49 at hfr
          generalize a9.eval (.tmp 50) = e50 at hfr
          clear hall hm7 f17
          have HVQ := Lib.hid (HQ.out.trans hg7)
          clear hg7 HC8 HC9
          rw [hfr]
          clear hfr hidx
          unfold wpList
          go_simp
          go_wp2
          go_roundw
          case rel => exact ⟨q + 1, HLQ.out, by go_num, HVQ.out⟩
          case measure => have := HLQ.out; simp [intOf]; omega
        · have hq8 : decide ((q : Int) < 8) = false := by simp; omega
          have HAW := Lib.hid (awake_any wr (HT.out.grown (HV8.out.trans HQ.out)))
          have HF := Lib.hid (HV8.out.trans HQ.out)
          clear hlt hq
          go_wp2_with fail
          refine HAW.out.mono ?_
          rintro e w9 ⟨rfl, hg9⟩
          go_wp2
          go_ret
          exact ⟨rfl, HF.out.trans hg9⟩
end Go.Proofs.YtibpjmbnllmahaaDoor
