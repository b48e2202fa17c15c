/-
  The document's own digest over this program.
-/
import Derived.Test.YtmhcfbfdbminnaaDoorRefBlock
import Derived.Test.YtmhcfbfdbminnaaDoorRefTabs
import Derived.Test.YtmhcfbfdbminnaaDoorRefPad
import Derived.Test.YtmhcfbfdbminnaaDoorDigStepOps
namespace Go.Proofs.YtmhcfbfdbminnaaDoor
open Go.RowKit

theorem wn_start : wn start = startN := by decide
theorem told_take (S : List W32) (k : Nat) (h : k < S.length) : told (S.take (k + 1)) = told (S.take k) ++ told1 (S.getD k 0) := told_succ S k h
theorem Rd.part {w : World} {ad : Addr} {n c : Nat} {M : List UInt8} (h : Rd w (.slice (some ad) n c) (bytesV M)) (j : Nat) (hj : 64 * j + 64 ≤ n) : Rd w (.slice (some (ad.add (64 * j))) 64 (c - 64 * j)) (bytesV ((M.drop (64 * j)).take 64)) := by
  obtain ⟨hl, hnc, hcm⟩ := h.len
  rw [bytesV_len] at hl
  have h64 : (bytesV ((M.drop (64 * j)).take 64)).length = 64 := by rw [bytesV_len, List.length_take, List.length_drop]; omega
  refine ⟨some (ad.add (64 * j)), c - 64 * j, by rw [h64], by omega, by omega, fun _ => ⟨_, rfl, fun i u hi => ?_⟩⟩
  have hne : bytesV M ≠ [] := by
    intro e
    have := congrArg List.length e
    rw [bytesV_len] at this
    simp only [List.length_nil] at this
    omega
  obtain ⟨ad', he, hc⟩ := h.cells hne
  cases he
  rw [add_add]
  refine hc _ u ?_
  simp only [bytesV, List.map_take, List.getElem?_take] at hi
  split at hi
  · rw [List.map_drop, List.getElem?_drop] at hi
    exact hi
  · cases hi
theorem runB_next (M : List UInt8) (k : Nat) (h : 64 * k + 64 ≤ M.length) : runB start (M.take (64 * (k + 1))) = blk (runB start (M.take (64 * k))) ((M.drop (64 * k)).take 64) := by
  have e : M.take (64 * (k + 1)) = M.take (64 * k) ++ (M.drop (64 * k)).take 64 := by rw [show 64 * (k + 1) = 64 * k + 64 by omega, List.take_add]
  rw [e, runB_append _ _ _ (by rw [List.length_take]; omega), runB_one _ _ (by rw [List.length_take, List.length_drop]; omega)]

theorem wpList_ex {P : Program} (w : World) {ops : Array Oper} {rest : List Oper} {o : Oper} {a : Act} {Q : Exit → Act → World → Prop} (hgd : o.guard = none) {v : Value} (hr : (execOp a.eval o).run P w = .ok (.value v) w) (h : wpList P ops Q rest (a.put o.dst v) w) : wpList P ops Q (o :: rest) a w :=
  wpList_plain hgd fun _ hK => by
    unfold Oper.wp
    rw [hr, Oper.upon_value]
    exact hK _ _ h
theorem ex_sliceJ {o : Oper} {a : Act} {w : World} {x y z : Operand} {ad : Addr} {n c j : Nat} (h : o.op = .slice 22 x (some y) (some z) none) (hx : a.eval x = .slice (some ad) n c) (hy : a.eval y = .int .i64 (64 * (j : Int))) (hz : a.eval z = .int .i64 (64 * (j : Int) + 64)) (hjc : 64 * j + 64 ≤ c) :
    (execOp a.eval o).run Tryd.prog w = .ok (.value (.slice (some (ad.add (64 * j))) 64 (c - 64 * j))) w := by
  have := ex_slice2 (o := o) (a := a) (w := w) (i := 64 * j) (j := 64 * j + 64) h hx (by rw [hy]; congr 1) (by rw [hz]; congr 1) (by omega) hjc
  rw [show 64 * j + 64 - 64 * j = 64 by omega] at this
  exact this

theorem ofNat_mod (n : Nat) : UInt8.ofNat (n % 256) = UInt8.ofNat n := by
  apply UInt8.toNat_inj.1
  rw [UInt8.toNat_ofNat', UInt8.toNat_ofNat']
  omega
section
variable {o : Oper} {a : Act} {w : World}
theorem ex_quoc {x : Operand} {k : Nat} (d : Nat) {e : Int} (he : e = (d : Int)) (hd0 : 0 < d) (h : o.op = .binOp .quo 3 x (.const (.int .i64 e)) 3) (hx : Is (.int .i64 (k : Int)) (a.eval x) w) (hk : k < 4294967296) : (execOp a.eval o).run Tryd.prog w = .ok (.value (.int .i64 ((k / d : Nat) : Int))) w := by
  have hx' : a.eval x = .int .i64 (k : Int) := hx
  have hc : a.eval (.const (.int .i64 e)) = .int .i64 e := rfl
  have hne : ¬ e = 0 := by omega
  have hle : k / d ≤ k := Nat.div_le_self _ _
  have ht : (k : Int).tdiv e = ((k / d : Nat) : Int) := by rw [he]; rfl
  generalize k / d = q at *
  have hw : IntKind.i64.wrap (q : Int) = (q : Int) := by clear ht; rw [IntKind.wrap_i64]; omega
  simp only [execOp, h, hx', hc]
  simp [go_sem, hne, ht, hw]
theorem ex_rem256 {x : Operand} {k : Nat} (h : o.op = .binOp .rem 3 x (.const (.int .i64 256)) 3) (hx : Is (.int .i64 (k : Int)) (a.eval x) w) : (execOp a.eval o).run Tryd.prog w = .ok (.value (.int .i64 ((k % 256 : Nat) : Int))) w := by
  have hx' : a.eval x = .int .i64 (k : Int) := hx
  have hc : a.eval (.const (.int .i64 256)) = .int .i64 256 := rfl
  have hm : (k : Int).tmod 256 = ((k % 256 : Nat) : Int) := rfl
  simp only [execOp, h, hx', hc]
  simp [go_sem, hm]
theorem ex_conv8 {x : Operand} {k : Nat} (h : o.op = .convert 3 5 x) (hx : Is (.int .i64 (k : Int)) (a.eval x) w) : (execOp a.eval o).run Tryd.prog w = .ok (.value (byteV (UInt8.ofNat k))) w := by
  have hx' : a.eval x = .int .i64 (k : Int) := hx
  simp only [execOp, h, hx']
  simp [go_sem, byteV, IntKind.wrap_u8']
theorem ex_build4B {x0 x1 x2 x3 : Operand} {b0 b1 b2 b3 : UInt8} (h : o.op = .buildSlice 22 4 #[(0, x0), (1, x1), (2, x2), (3, x3)])
    (h0 : Is (byteV b0) (a.eval x0) w) (h1 : Is (byteV b1) (a.eval x1) w) (h2 : Is (byteV b2) (a.eval x2) w) (h3 : Is (byteV b3) (a.eval x3) w) :
    (execOp a.eval o).run Tryd.prog w = .ok (.value (.slice (some ⟨w.heap.size, 0, none⟩) 4 4)) (w.alloc (.cells #[byteV b0, byteV b1, byteV b2, byteV b3] 5)) := by
  have h0' : a.eval x0 = .int .u8 (b0.toNat : Int) := h0
  have h1' : a.eval x1 = .int .u8 (b1.toNat : Int) := h1
  have h2' : a.eval x2 = .int .u8 (b2.toNat : Int) := h2
  have h3' : a.eval x3 = .int .u8 (b3.toNat : Int) := h3
  simp only [execOp, h, h0', h1', h2', h3', List.map_toArray, List.map_cons, List.map_nil]
  go_simp
  rfl
end

/-- A row of the call's own, of a later base. -/
theorem own_base {w : World} {base base' n : Nat} {e : TypeId} {v : Value} {xs : List Value} (h : w.ownsRow base e 1 v n xs) (hb : base' ≤ base) : w.ownsRow base' e 1 v n xs := by
  obtain ⟨h1, h2⟩ := h
  refine ⟨h1, ?_⟩
  rcases h2 with h2 | ⟨g, cap, cur, e1, e2, e3⟩
  · exact .inl h2
  · exact .inr ⟨g, cap, cur, e1, Nat.le_trans hb e2, e3⟩

set_option maxHeartbeats 4000000 in
theorem refOf_own (v : Value) (l : List UInt8) (w : World) (hr : Rd w v (bytesV l)) (hlen : l.length ≤ 1000) :
    Calls Tryd.prog 20 #[v] w fun e w' => ∃ u, e = .returned u ∧ w'.ownsRow w.heap.size 5 1 u (sha l).length (bytesV (sha l)) ∧ w.grownBy w' none := by
  have HR := Lib.hid hr
  obtain ⟨A, c, rfl⟩ := hr.form
  rw [bytesV_len] at *
  have HR' := HR
  clear hr HR
  generalize hn : l.length = n at *
  have HL := Lib.hid hn
  go_enter Tryd.func20, Tryd.ntmps20
  go_wp2_with (at_builtin; refine wpList_append_bytes _ rfl _ _ rfl w.heap.size _ 0 [] rfl (own_empty w _ (Nat.le_refl _)) _ l rfl (HR'.out.alloc _) ?_ ?_ ?_)
  · omega
  · simp
  intro v1 w1 ho1 hg1 hat1
  have hgw1 : w.grownBy w1 none := grown_new (grown_alloc (grown_refl _ _) _) hg1 (fun b hb => by simp [Value.ownBlock] at hb; omega)
  clear hg1 hat1
  have HPAD := Lib.hid (refPad_any n (by omega) w1)
  go_wp2_with fail
  refine HPAD.out.mono ?_
  rintro e w2 ⟨u, rfl, hru, hg2, hub⟩
  have ho2 := ho1.kept hg2 (by cases v1.ownBlock <;> simp)
  have hpl := pad_len n
  have hpz := padZ_lt n
  have hpw := pad_whole n
  have hsha : sha l = told (runB start (l ++ pad n)) := by rw [← hn]; rfl
  have HPL := Lib.hid (And.intro hpl (And.intro hpz hpw))
  have hgw2 := hgw1.trans hg2
  clear ho1 hub hpl hpz hpw hgw1 hg2 HPAD
  generalize pad n = P at *
  have HRU := Lib.hid hru
  obtain ⟨A2, c2, rfl⟩ := hru.form
  clear hru
  go_wp2_with (at_builtin; refine wpList_append_bytes _ rfl _ _ rfl w.heap.size _ _ _ rfl ho2 _ P rfl HRU.out ?_ ?_ ?_)
  · have := HPL.out; omega
  · exact hgw2.size
  intro v3 w3 ho3 hg3 hat3
  have hgw3 : w.grownBy w3 none := grown_new hgw2 hg3 (fun b hb => (ho2.lt b hb).1)
  have hr3 : Rd w3 v3 (bytesV (l ++ P)) := by
    have := Rd.of_own ho3
    simpa [bytesV_app] using this
  have hML : (l ++ P).length = n + P.length := by rw [List.length_append, hn]
  have HSHA := Lib.hid hsha
  clear hg3 hat3 ho2 ho3 hgw2 hsha
  generalize l ++ P = M at *
  obtain ⟨A3, c3, rfl⟩ := hr3.form
  have e3 : (bytesV M).length = M.length := bytesV_len M
  rw [e3] at hr3 ⊢
  have hc3 := hr3.len.2
  unfold maxLen at hc3
  have HRM := Lib.hid hr3
  have HGW := Lib.hid hgw3
  have hM64 : M.length % 64 = 0 := by have h2 := HPL.out; omega
  have hMle : M.length ≤ 2000 := by have h2 := HPL.out; omega
  generalize hm : M.length = m at *
  have HM := Lib.hid hm
  clear hr3 hgw3 hML e3 hm hn
  go_wp2_with fail
  refine (refStart_any _).mono ?_
  rintro e w4 ⟨v4, rfl, hr4, hg4⟩
  rw [← wn_start] at hr4
  have HR4 := Lib.hid hr4
  have HG4 := Lib.hid hg4
  clear hr4 hg4
  go_wp2_with fail
  refine (refTable_any _).mono ?_
  rintro e w5 ⟨v5, rfl, hr5, hg5⟩
  have HR5 := Lib.hid hr5
  have HR45 := Lib.hid (HR4.out.grown0 hg5)
  have HRM5 := Lib.hid ((HRM.out.grown0 HG4.out).grown0 hg5)
  have HG5 := Lib.hid ((HGW.out.trans HG4.out).trans hg5)
  clear hr5 hg5 HR4 HG4 HRM HGW
  go_wp2
  go_loopw [4, 6] (fun u i W => ∃ j : Nat, 64 * j ≤ m ∧ i = .int .i64 (64 * (j : Int)) ∧ Rd W u (intsV (wn (runB start (M.take (64 * j))))) ∧ w5.grownBy W none) (fun _ i _ => m - (intOf i).toNat)
  case atStart => exact ⟨0, Nat.zero_le _, rfl, by rw [Nat.mul_zero, List.take_zero, runB_small _ _ (by simp)]; exact HR45.out, grown_refl _ _⟩
  case round =>
    obtain ⟨j, hj, rfl, hru, hgr⟩ := hrel
    have HRU' := Lib.hid hru
    have HGR := Lib.hid hgr
    clear hru hgr
    by_cases h64 : 64 * j + 64 ≤ m
    · have hrm := HRM5.out.grown0 HGR.out
      obtain ⟨ad, rfl, hcl0⟩ := hrm.cells (by intro e; have := congrArg List.length e; rw [bytesV_len, HM.out] at this; simp only [List.length_nil] at this; omega)
      clear hcl0
      have hpart := hrm.part j h64
      have hb64 : ((M.drop (64 * j)).take 64).length = 64 := by rw [List.length_take, List.length_drop, HM.out]; omega
      have HNX := Lib.hid (runB_next M j (by rw [HM.out]; exact h64))
      have hS8 := runB_len start (M.take (64 * j)) start_len
      generalize runB start (M.take (64 * j)) = S at *
      generalize (M.drop (64 * j)).take 64 = B at *
      have HBK := Lib.hid (refBlock_any _ _ _ S hS8 B hb64 wr HRU'.out hpart (HR5.out.grown0 HGR.out))
      obtain ⟨A4, c4, rfl⟩ := HRU'.out.form
      obtain ⟨A5, c5, rfl⟩ := HR5.out.form
      generalize (intsV (wn S)).length = m4 at *
      generalize (intsV kN).length = m5 at *
      have HJC := Lib.hid (show 64 * j + 64 ≤ c3 by omega)
      clear hpart hb64 hS8 hrm
      go_wp2_with (refine wpList_ex _ rfl (ex_sliceJ (ad := ad) (j := j) rfl rfl rfl rfl HJC.out) ?_)
      refine HBK.out.mono ?_
      rintro e w6 ⟨v6, rfl, hr6, hg6⟩
      have HR6 := Lib.hid hr6
      have HG6 := Lib.hid hg6
      clear hr6 hg6
      go_wp2
      go_roundw
      case rel => exact ⟨j + 1, by omega, by go_num, by rw [HNX.out]; exact HR6.out, HGR.out.trans HG6.out⟩
      case measure => simp [intOf]; omega
    · have hjm : M.take (64 * j) = M := List.take_of_length_le (by rw [HM.out]; omega)
      rw [hjm] at HRU'
      have hS8 := runB_len start M start_len
      have hge : decide (64 * (j : Int) < (m : Int)) = false := by simp; omega
      generalize runB start M = S at *
      have HS8 := Lib.hid hS8
      have hr4 := HRU'.out
      obtain ⟨A4, c4, rfl⟩ := hr4.form
      have e4 : (intsV (wn S)).length = 8 := by rw [intsV_len, wn_len, hS8]
      rw [e4] at hr4 ⊢
      have hc4 := hr4.len.2
      unfold maxLen at hc4
      obtain ⟨ad4, rfl, hz4⟩ := hr4.num 0 (by rw [wn_len, hS8]; decide)
      have HR4' := Lib.hid hr4
      clear hz4 hr4 e4 hS8 hjm HRU'
      generalize hW : wr = W9 at *
      clear hW
      go_wp2
      go_loopw [7, 8] (fun u i W => ∃ k : Nat, k ≤ 8 ∧ i = .int .i64 k ∧ W.ownsRow W9.heap.size 5 1 u (4 * k) (bytesV (told (S.take k))) ∧ W9.grownBy W none) (fun _ i _ => 8 - (intOf i).toNat)
      case atStart => exact ⟨0, Nat.zero_le _, rfl, World.ownsRow_nil _ _ _ _, grown_refl _ _⟩
      case round =>
        obtain ⟨k, hk, rfl, ho, hgr⟩ := hrel
        have HO := Lib.hid ho
        have HGR' := Lib.hid hgr
        clear ho hgr
        by_cases hlt : k < 8
        · obtain ⟨ad4', he4, hc⟩ := (HR4'.out.grown0 HGR'.out).num k (by rw [wn_len, HS8.out]; exact hlt)
          cases he4
          rw [wn_at _ _ (by rw [HS8.out]; exact hlt)] at hc
          have HTS := Lib.hid (told_succ S k (by rw [HS8.out]; exact hlt))
          have hx := (S.getD k 0).isLt
          generalize S.getD k 0 = x at *
          obtain ⟨E, hE⟩ := eff_of 28 u7
          have HE := Lib.hid hE
          have HK8 := Lib.hid hlt
          have HX := Lib.hid hx
          have hadlt : ad4.block < W9.heap.size := by
            have hnum := HR4'.out.num 0 (by rw [wn_len, HS8.out]; decide)
            obtain ⟨ad', he', hc'⟩ := hnum
            cases he'
            have := World.block_lt_of_cell? W9 _ hc'
            rw [add_block] at this
            exact this
          have HLD := Lib.hid (fun (W : World) (hg : GrownX (E.map (·.2)) wr.drew W) => show W.cell? (ad4.add k) = some (.int .i64 (x.toNat : Int)) by
            rw [← hc]
            refine World.cell?_of_block ?_
            rw [add_block]
            refine hg.block _ (by have := World.block_lt_of_cell? wr _ hc; rw [add_block] at this; exact this) (fun hx => ?_)
            have h1 := HE.out.2.2.2 _ hx
            have h2 := (HO.out.lt _ h1).1
            omega)
          clear hE hx hadlt hc
          go_wp2
          refine wp_region_walk 29 E HE.out.1 (by kernel_rfl) (by kernel_rfl) (by kernel_rfl) ?_
          simp only [List.take_succ_cons, List.take_zero, List.drop_succ_cons, List.drop_zero]
          refine Walk.val (G := Is u7) (stays_is _ _) rfl rfl (fun a w hm hd => ⟨wanted_plain rfl, _, ex_move rfl, (by rw [hm.outer 7 (by kernel_rfl)]; exact rfl)⟩) ?_
          refine Walk.val (G := Is (.slice (some ad4) 8 c4)) (stays_is _ _) rfl rfl (fun a w hm hd => ⟨wanted_plain rfl, _, ex_move rfl, (by rw [hm.outer 4 (by kernel_rfl)]; exact rfl)⟩) ?_
          refine Walk.val (G := Is (.int .i64 ((k : Nat) : Int))) (stays_is _ _) rfl rfl (fun a w hm hd => ⟨wanted_plain rfl, _, ex_move rfl, (by rw [hm.outer 8 (by kernel_rfl)]; exact rfl)⟩) ?_
          refine Walk.val (G := Is (.pointer (some (ad4.add k)))) (stays_is _ _) rfl rfl (fun a w hm hd => ⟨wanted_plain rfl, _, ex_idx rfl (hd.at_ 1 rfl rfl rfl rfl) (hd.at_ 2 rfl rfl rfl rfl) HK8.out, rfl⟩) ?_
          refine Walk.val (G := Is (.int .i64 ((x.toNat : Nat) : Int))) (stays_is _ _) rfl rfl (fun a w hm hd => ⟨wanted_plain rfl, _, ex_loadI rfl (hd.at_ 3 rfl rfl rfl rfl) (HLD.out w hm.grow), rfl⟩) ?_
          refine Walk.val (G := Is (.int .i64 ((x.toNat / 16777216 : Nat) : Int))) (stays_is _ _) rfl rfl (fun a w hm hd => ⟨wanted_plain rfl, _, ex_quoc 16777216 rfl (by decide) rfl (hd.at_ 4 rfl rfl rfl rfl) HX.out, rfl⟩) ?_
          refine Walk.val (G := Is (byteV (UInt8.ofNat (x.toNat / 16777216)))) (stays_is _ _) rfl rfl (fun a w hm hd => ⟨wanted_plain rfl, _, ex_conv8 rfl (hd.at_ 5 rfl rfl rfl rfl), rfl⟩) ?_
          refine Walk.val (G := Is (.slice (some ad4) 8 c4)) (stays_is _ _) rfl rfl (fun a w hm hd => ⟨wanted_plain rfl, _, ex_move rfl, (by rw [hm.outer 4 (by kernel_rfl)]; exact rfl)⟩) ?_
          refine Walk.val (G := Is (.int .i64 ((k : Nat) : Int))) (stays_is _ _) rfl rfl (fun a w hm hd => ⟨wanted_plain rfl, _, ex_move rfl, (by rw [hm.outer 8 (by kernel_rfl)]; exact rfl)⟩) ?_
          refine Walk.val (G := Is (.pointer (some (ad4.add k)))) (stays_is _ _) rfl rfl (fun a w hm hd => ⟨wanted_plain rfl, _, ex_idx rfl (hd.at_ 7 rfl rfl rfl rfl) (hd.at_ 8 rfl rfl rfl rfl) HK8.out, rfl⟩) ?_
          refine Walk.val (G := Is (.int .i64 ((x.toNat : Nat) : Int))) (stays_is _ _) rfl rfl (fun a w hm hd => ⟨wanted_plain rfl, _, ex_loadI rfl (hd.at_ 9 rfl rfl rfl rfl) (HLD.out w hm.grow), rfl⟩) ?_
          refine Walk.val (G := Is (.int .i64 ((x.toNat / 65536 : Nat) : Int))) (stays_is _ _) rfl rfl (fun a w hm hd => ⟨wanted_plain rfl, _, ex_quoc 65536 rfl (by decide) rfl (hd.at_ 10 rfl rfl rfl rfl) HX.out, rfl⟩) ?_
          refine Walk.val (G := Is (.int .i64 ((x.toNat / 65536 % 256 : Nat) : Int))) (stays_is _ _) rfl rfl (fun a w hm hd => ⟨wanted_plain rfl, _, ex_rem256 rfl (hd.at_ 11 rfl rfl rfl rfl), rfl⟩) ?_
          refine Walk.val (G := Is (byteV (UInt8.ofNat (x.toNat / 65536 % 256)))) (stays_is _ _) rfl rfl (fun a w hm hd => ⟨wanted_plain rfl, _, ex_conv8 rfl (hd.at_ 12 rfl rfl rfl rfl), rfl⟩) ?_
          refine Walk.val (G := Is (.slice (some ad4) 8 c4)) (stays_is _ _) rfl rfl (fun a w hm hd => ⟨wanted_plain rfl, _, ex_move rfl, (by rw [hm.outer 4 (by kernel_rfl)]; exact rfl)⟩) ?_
          refine Walk.val (G := Is (.int .i64 ((k : Nat) : Int))) (stays_is _ _) rfl rfl (fun a w hm hd => ⟨wanted_plain rfl, _, ex_move rfl, (by rw [hm.outer 8 (by kernel_rfl)]; exact rfl)⟩) ?_
          refine Walk.val (G := Is (.pointer (some (ad4.add k)))) (stays_is _ _) rfl rfl (fun a w hm hd => ⟨wanted_plain rfl, _, ex_idx rfl (hd.at_ 14 rfl rfl rfl rfl) (hd.at_ 15 rfl rfl rfl rfl) HK8.out, rfl⟩) ?_
          refine Walk.val (G := Is (.int .i64 ((x.toNat : Nat) : Int))) (stays_is _ _) rfl rfl (fun a w hm hd => ⟨wanted_plain rfl, _, ex_loadI rfl (hd.at_ 16 rfl rfl rfl rfl) (HLD.out w hm.grow), rfl⟩) ?_
          refine Walk.val (G := Is (.int .i64 ((x.toNat / 256 : Nat) : Int))) (stays_is _ _) rfl rfl (fun a w hm hd => ⟨wanted_plain rfl, _, ex_quoc 256 rfl (by decide) rfl (hd.at_ 17 rfl rfl rfl rfl) HX.out, rfl⟩) ?_
          refine Walk.val (G := Is (.int .i64 ((x.toNat / 256 % 256 : Nat) : Int))) (stays_is _ _) rfl rfl (fun a w hm hd => ⟨wanted_plain rfl, _, ex_rem256 rfl (hd.at_ 18 rfl rfl rfl rfl), rfl⟩) ?_
          refine Walk.val (G := Is (byteV (UInt8.ofNat (x.toNat / 256 % 256)))) (stays_is _ _) rfl rfl (fun a w hm hd => ⟨wanted_plain rfl, _, ex_conv8 rfl (hd.at_ 19 rfl rfl rfl rfl), rfl⟩) ?_
          refine Walk.val (G := Is (.slice (some ad4) 8 c4)) (stays_is _ _) rfl rfl (fun a w hm hd => ⟨wanted_plain rfl, _, ex_move rfl, (by rw [hm.outer 4 (by kernel_rfl)]; exact rfl)⟩) ?_
          refine Walk.val (G := Is (.int .i64 ((k : Nat) : Int))) (stays_is _ _) rfl rfl (fun a w hm hd => ⟨wanted_plain rfl, _, ex_move rfl, (by rw [hm.outer 8 (by kernel_rfl)]; exact rfl)⟩) ?_
          refine Walk.val (G := Is (.pointer (some (ad4.add k)))) (stays_is _ _) rfl rfl (fun a w hm hd => ⟨wanted_plain rfl, _, ex_idx rfl (hd.at_ 21 rfl rfl rfl rfl) (hd.at_ 22 rfl rfl rfl rfl) HK8.out, rfl⟩) ?_
          refine Walk.val (G := Is (.int .i64 ((x.toNat : Nat) : Int))) (stays_is _ _) rfl rfl (fun a w hm hd => ⟨wanted_plain rfl, _, ex_loadI rfl (hd.at_ 23 rfl rfl rfl rfl) (HLD.out w hm.grow), rfl⟩) ?_
          refine Walk.val (G := Is (.int .i64 ((x.toNat % 256 : Nat) : Int))) (stays_is _ _) rfl rfl (fun a w hm hd => ⟨wanted_plain rfl, _, ex_rem256 rfl (hd.at_ 24 rfl rfl rfl rfl), rfl⟩) ?_
          refine Walk.val (G := Is (byteV (UInt8.ofNat (x.toNat % 256)))) (stays_is _ _) rfl rfl (fun a w hm hd => ⟨wanted_plain rfl, _, ex_conv8 rfl (hd.at_ 25 rfl rfl rfl rfl), rfl⟩) ?_
          refine Walk.act (G := fun v W => Rd W v (bytesV (told1 x)) ∧ ∀ b, v.ownBlock = some b → wr.heap.size ≤ b) (fun i hi v W W' hG hg => ⟨hG.1.grown hg (fun b hb e => by
            by_cases h35 : i = 28
            · subst h35
              have h1 := HE.out.2.2.1
              rw [h1] at e
              have h2 := (HO.out.lt b e.symm).2
              have h3 := hG.2 b hb
              omega
            · rw [HE.out.2.1 i h35] at e
              cases e), hG.2⟩) rfl rfl (fun a w hm _ hd => ⟨wanted_plain rfl, _, _, ex_build4B rfl (hd.at_ 6 rfl rfl rfl rfl) (hd.at_ 13 rfl rfl rfl rfl) (hd.at_ 20 rfl rfl rfl rfl) (hd.at_ 26 rfl rfl rfl rfl), by rw [HE.out.2.1 27 (by decide)]; exact grown_alloc (grown_refl _ _) _, by
              rw [ofNat_mod, ofNat_mod, ofNat_mod]
              exact (Row.new w 5 (bytesV (told1 x))).rd 4 4 rfl (by decide) (by decide), fun b hb => by simp only [Value.ownBlock, Option.some.injEq] at hb; have := hm.grow.size; rw [← hb]; exact this⟩) ?_
          refine Walk.act (G := fun v W => W.ownsRow W9.heap.size 5 1 v (4 * k + (told1 x).length) (bytesV (told (S.take k)) ++ bytesV (told1 x)) ∧ W9.grownBy W none) (fun i hi v W W' hG hg => by
            rw [HE.out.2.1 i hi] at hg
            exact ⟨hG.1.kept hg (by cases v.ownBlock <;> simp), hG.2.trans hg⟩) rfl rfl (fun a W hm hah hd => by
            have e32 : a.eval (.tmp 36) = u7 := hd.at_ 0 rfl rfl rfl rfl
            have h66 := hd.at_ (G := fun v W => Rd W v (bytesV (told1 x)) ∧ ∀ b, v.ownBlock = some b → wr.heap.size ≤ b) 27 rfl rfl rfl rfl
            have hgn : wr.grownBy W none := ⟨hm.grow.os, hm.grow.tape, hm.grow.output, hm.grow.size, fun b hb _ => by
              by_cases hx : b ∈ E.map (·.2)
              · exact hah b (by rw [HE.out.2.2.1]; exact HE.out.2.2.2 b hx) hb
              · exact hm.grow.block b hb hx⟩
            have hown := HO.out.kept hgn (by cases u7.ownBlock <;> simp)
            have hgw := HGR'.out.trans hgn
            obtain ⟨i3, hi3, hz3, hs3, hb3⟩ := infoByte
            have hk8 := HK8.out
            obtain ⟨v', w', hrun, h2, h3, h4⟩ := run_append_rd (P := Tryd.prog) W W9.heap.size 22 22 5 i3 (.int .u8 0) 1 Tryd.underlying22 hi3 hz3 hs3 hb3 rfl u7 (4 * k) _ hown _ (bytesV (told1 x)) h66.1 (bytesV_one _) (by rw [bytesV_len]; show (4 * k + 4) * 1 ≤ _; omega) (by rw [bytesV_len]; show 4 * k + 4 ≤ _; omega) hgw.size
            rw [bytesV_len] at h2
            refine ⟨wanted_plain rfl, v', w', ?_, by rw [HE.out.2.2.1]; exact h3, h2, grown_new hgw h3 (fun b hb => (hown.lt b hb).1)⟩
            unfold execOp
            simp only [resolve, invoke, builtin, Sem.run_bind, Sem.run_pure, Result.andThen_ok, List.map_toArray, List.map_cons, List.map_nil, e32, hrun]) ?_
          intro a9 w7 hm7 hall
          have f35 := hall 28 _ _ rfl rfl
          have HO' := Lib.hid (show w7.ownsRow W9.heap.size 5 1 (a9.eval (.tmp 64)) (4 * k + (told1 x).length) (bytesV (told (S.take k)) ++ bytesV (told1 x)) from f35.1)
          have HGN := Lib.hid (show W9.grownBy w7 none from f35.2)
          have hfr := hm7.frame
          simp only [List.take_succ_cons, List.take_zero, List.filterMap_cons, List.filterMap_nil, List.foldl_cons, List.foldl_nil] at hfr
          generalize a9.eval (.tmp 36) = e36 at hfr
          generalize a9.eval (.tmp 37) = e37 at hfr
          generalize a9.eval (.tmp 38) = e38 at hfr
          generalize a9.eval (.tmp 39) = e39 at hfr
          generalize a9.eval (.tmp 40) = e40 at hfr
          generalize a9.eval (.tmp 41) = e41 at hfr
          generalize a9.eval (.tmp 42) = e42 at hfr
          generalize a9.eval (.tmp 43) = e43 at hfr
          generalize a9.eval (.tmp 44) = e44 at hfr
          generalize a9.eval (.tmp 45) = e45 at hfr
          generalize a9.eval (.tmp 46) = e46 at hfr
          generalize a9.eval (.tmp 47) = e47 at hfr
          generalize a9.eval (.tmp 48) = e48 at hfr
          generalize a9.eval (.tmp 49) = e49 at hfr
          generalize a9.eval (.tmp 50) = e50 at hfr
          generalize a9.eval (.tmp 51) = e51 at hfr
          generalize a9.eval (.tmp 52) = e52 at hfr
          generalize a9.eval (.tmp 53) = e53 at hfr
          generalize a9.eval (.tmp 54) = e54 at hfr
          generalize a9.eval (.tmp 55) = e55 at hfr
          generalize a9.eval (.tmp 56) = e56 at hfr
          generalize a9.eval (.tmp 57) = e57 at hfr
          generalize a9.eval (.tmp 58) = e58 at hfr
          generalize a9.eval (.tmp 59) = e59 at hfr
          generalize a9.eval (.tmp 60) = e60 at hfr
          generalize a9.eval (.tmp 61) = e61 at hfr
          generalize a9.eval (.tmp 62) = e62 at hfr
          generalize a9.eval (.tmp 63) = e63 at hfr
          generalize a9.eval (.tmp 64) = e64 at hfr HO'
          clear hall hm7 f35
          rw [hfr]
          clear hfr
          go_wp2
          go_roundw
          case rel =>
            refine ⟨k + 1, by omega, by go_num, ?_, HGN.out⟩
            rw [HTS.out, bytesV_app]
            exact HO'.out
          case measure => simp [intOf]; omega
        · have h8 : S.take k = S := List.take_of_length_le (by rw [HS8.out]; omega)
          rw [h8, ← HSHA.out] at HO
          have hq8 : decide ((k : Int) < 8) = false := by simp; omega
          clear h8 hk hlt
          go_wp2
          go_ret
          have hown := own_base HO.out (HG5.out.trans HGR.out).size
          have e4 : (sha l).length = 4 * k := by have := hown.1; rw [bytesV_len] at this; omega
          rw [← e4] at hown
          exact ⟨_, rfl, hown, (HG5.out.trans HGR.out).trans HGR'.out⟩
theorem refOf_any (v : Value) (l : List UInt8) (w : World) (hr : Rd w v (bytesV l)) (hlen : l.length ≤ 1000) :
    Calls Tryd.prog 20 #[v] w fun e w' => ∃ u, e = .returned u ∧ Rd w' u (bytesV (sha l)) ∧ w.grownBy w' none := by
  refine (refOf_own v l w hr hlen).mono ?_
  rintro e w' ⟨u, rfl, ho, hg⟩
  exact ⟨u, rfl, Rd.of_own ho, hg⟩
end Go.Proofs.YtmhcfbfdbminnaaDoor
