/-
  The document's own End of layer 10, over this program.
-/
import Derived.Test.YtohndlfekecfoaaRcoBit
namespace Go.Proofs.Ytohndlfekecfoaa
set_option maxRecDepth 1000000
open Go.RowKit

theorem lowB_cells {n : Nat} (h : n < 4294967296) : bytesV (lowB n) = [.int .u8 ((n / 16777216 : Nat) : Int), .int .u8 ((n / 65536 % 256 : Nat) : Int), .int .u8 ((n / 256 % 256 : Nat) : Int), .int .u8 ((n % 256 : Nat) : Int)] := by
  simp [bytesV, lowB, byteV]
  omega
section
variable {o : Oper} {a : Act} {w : World}
theorem st_quo16 {x : Operand} {m : Nat} (h : o.op = .binOp .quo 3 x (.const (.int .i64 65536)) 3) (hx : Is (.int .i64 (m : Int)) (a.eval x) w) (hm : m < 4294967296) : Runs (Is (.int .i64 ((m / 65536 : Nat) : Int))) o a w := by
  have hx' : a.eval x = .int .i64 (m : Int) := hx
  have hc : a.eval (.const (.int .i64 65536)) = .int .i64 65536 := rfl
  have ht : (m : Int).tdiv 65536 = (m : Int) / 65536 := Int.tdiv_eq_ediv_of_nonneg (by omega)
  have hw : IntKind.i64.wrap ((m : Int) / 65536) = (m : Int) / 65536 := by rw [IntKind.wrap_i64]; omega
  refine ⟨_, ?_, rfl⟩
  simp only [execOp, h, hx', hc]
  simp [go_sem, ht, hw]
theorem st_quo8 {x : Operand} {m : Nat} (h : o.op = .binOp .quo 3 x (.const (.int .i64 256)) 3) (hx : Is (.int .i64 (m : Int)) (a.eval x) w) (hm : m < 4294967296) : Runs (Is (.int .i64 ((m / 256 : Nat) : Int))) o a w := by
  have hx' : a.eval x = .int .i64 (m : Int) := hx
  have hc : a.eval (.const (.int .i64 256)) = .int .i64 256 := rfl
  have ht : (m : Int).tdiv 256 = (m : Int) / 256 := Int.tdiv_eq_ediv_of_nonneg (by omega)
  have hw : IntKind.i64.wrap ((m : Int) / 256) = (m : Int) / 256 := by rw [IntKind.wrap_i64]; omega
  refine ⟨_, ?_, rfl⟩
  simp only [execOp, h, hx', hc]
  simp [go_sem, ht, hw]
theorem st_rem8 {x : Operand} {m : Nat} (h : o.op = .binOp .rem 3 x (.const (.int .i64 256)) 3) (hx : Is (.int .i64 (m : Int)) (a.eval x) w) (hm : m < 4294967296) : Runs (Is (.int .i64 ((m % 256 : Nat) : Int))) o a w := by
  have hx' : a.eval x = .int .i64 (m : Int) := hx
  have hc : a.eval (.const (.int .i64 256)) = .int .i64 256 := rfl
  have ht : (m : Int).tmod 256 = (m : Int) % 256 := Int.tmod_eq_emod_of_nonneg (by omega)
  refine ⟨_, ?_, rfl⟩
  simp only [execOp, h, hx', hc]
  simp [go_sem, ht]
theorem ex_build4C {x1 x2 x3 x4 : Operand} {z1 z2 z3 z4 : Int} (h : o.op = .buildSlice 28 4 #[(0, x1), (1, x2), (2, x3), (3, x4)]) (h1 : Is (.int .u8 z1) (a.eval x1) w) (h2 : Is (.int .u8 z2) (a.eval x2) w) (h3 : Is (.int .u8 z3) (a.eval x3) w) (h4 : Is (.int .u8 z4) (a.eval x4) w) :
    (execOp a.eval o).run Try.prog w = .ok (.value (.slice (some ⟨w.heap.size, 0, none⟩) 4 4)) (w.alloc (.cells [Value.int .u8 z1, Value.int .u8 z2, Value.int .u8 z3, Value.int .u8 z4].toArray 5)) := by
  have h1 : a.eval x1 = _ := h1
  have h2 : a.eval x2 = _ := h2
  have h3 : a.eval x3 = _ := h3
  have h4 : a.eval x4 = _ := h4
  simp only [execOp, h, List.map_toArray, List.map_cons, List.map_nil, h1, h2, h3, h4]
  simp [go_sem]
end

set_option maxRecDepth 1000000 in
set_option maxHeartbeats 8000000 in
theorem rend_new (v : Value) (s : Cst) (w : World) (hr : Rd w v (bytesV s.out)) (hlo : s.low < 4294967296) (hl : s.out.length ≤ 100000) :
    Calls Try.prog 16 #[cV v s] w (fun e w' => ∃ u, e = .returned u ∧ Rd w' u (bytesV (endS s)) ∧ w.grownBy w' none ∧ ∀ b, u.ownBlock = some b → w.heap.size ≤ b) := by
  show Calls Try.prog 16 #[cV v s] w (fun e w' => ∃ u, e = .returned u ∧ Rd w' u (bytesV (s.out ++ lowB s.low)) ∧ w.grownBy w' none ∧ ∀ b, u.ownBlock = some b → w.heap.size ≤ b)
  obtain ⟨A, c, rfl⟩ := hr.form
  rw [bytesV_len] at *
  have HL := Lib.hid hl
  have HLO := Lib.hid hlo
  obtain ⟨gx, hgx⟩ : ∃ g, w.heap.size = g := ⟨_, rfl⟩
  obtain ⟨W0, hW0⟩ : ∃ W, w.alloc (.cells #[.slice A s.out.length c, .int .i64 (s.low : Int), .int .i64 (s.width : Int)] 30) = W := ⟨_, rfl⟩
  have HR0 := Lib.hid (show Row W0 gx 30 [.slice A s.out.length c, .int .i64 (s.low : Int), .int .i64 (s.width : Int)] by rw [← hW0]; exact Row.newAt w _ [.slice A s.out.length c, .int .i64 (s.low : Int), .int .i64 (s.width : Int)] hgx)
  have hG0 : w.grownBy W0 none := by rw [← hW0]; exact grown_alloc (grown_refl _ _) _
  have HRD := Lib.hid (hr.grown0 hG0)
  have HG0 := Lib.hid hG0
  clear hr hlo hl hG0
  unfold cV
  go_enter Try.func16, Try.ntmps16
  go_wp2
  refine wp_region_walk3 23 [] dis_nil (by kernel_rfl) (by kernel_rfl) (by kernel_rfl) ?_
  simp only [List.take_succ_cons, List.take_zero, List.drop_succ_cons, List.drop_zero]
  refine Walk.makeC (G := fun u W => ∃ g, u = .slice (some ⟨g, 0, none⟩) 0 0 ∧ W.ownsRow W0.heap.size 5 1 u 0 []) (fun _ _ _ _ _ ⟨g, h1, h2⟩ hg => ⟨g, h1, own_keepN h2 hg⟩) rfl rfl (fun a w hm _ hd => ⟨wanted_plain rfl, _, _, ex_build0C rfl, grown_alloc (grown_refl _ _) _, _, rfl, own_empty w _ hm.grow.size⟩) ?_
  refine Walk.val (G := Is (.pointer (some ⟨gx, 0, none⟩))) (stays_is _ _) rfl rfl (fun a w hm hd => ⟨wanted_plain rfl, st_fieldX0 rfl (by rw [hm.outer 1 (by kernel_rfl)]; rfl)⟩) ?_
  refine Walk.val (G := Is (.slice A s.out.length c)) (stays_is _ _) rfl rfl (fun a w hm hd => ⟨wanted_plain rfl, st_cell rfl (fun _ => by kernel_rfl) (hd.at_ 1 rfl rfl rfl rfl) ((HR0.out.grown0 (GrownX.none2 hm.grow)).cell (j := 0) rfl)⟩) ?_
  refine Walk.makeC (G := fun u W => W.ownsRow W0.heap.size 5 1 u s.out.length (bytesV s.out)) (fun _ _ _ _ _ h hg => own_keepN h hg) rfl rfl (fun a w hm _ hd => ⟨wanted_plain rfl, by
    obtain ⟨g0, h0, ho⟩ := hd.at_ 0 rfl rfl rfl rfl
    exact ex_appendE rfl W0.heap.size g0 h0 (by rw [← h0]; exact ho) hm.grow.size _ s.out (show a.eval (.tmp 5) = _ from hd.at_ 2 rfl rfl rfl rfl) (HRD.out.grown0 (GrownX.none2 hm.grow)) (by have := HL.out; omega)⟩) ?_
  refine Walk.val (G := Is (.pointer (some ⟨gx, 1, none⟩))) (stays_is _ _) rfl rfl (fun a w hm hd => ⟨wanted_plain rfl, st_fieldX1 rfl (by rw [hm.outer 1 (by kernel_rfl)]; rfl)⟩) ?_
  refine Walk.val (G := Is (.int .i64 (s.low : Int))) (stays_is _ _) rfl rfl (fun a w hm hd => ⟨wanted_plain rfl, st_cell rfl (fun _ => by kernel_rfl) (hd.at_ 4 rfl rfl rfl rfl) ((HR0.out.grown0 (GrownX.none2 hm.grow)).cell (j := 1) rfl)⟩) ?_
  refine Walk.val (G := Is (.int .i64 ((s.low / 16777216 : Nat) : Int))) (stays_is _ _) rfl rfl (fun a w hm hd => ⟨wanted_plain rfl, st_quo24 rfl (hd.at_ 5 rfl rfl rfl rfl) HLO.out⟩) ?_
  refine Walk.val (G := Is (.int .u8 ((s.low / 16777216 : Nat) : Int))) (stays_is _ _) rfl rfl (fun a w hm hd => ⟨wanted_plain rfl, st_conv38 rfl (hd.at_ 6 rfl rfl rfl rfl) (by have := HLO.out; omega)⟩) ?_
  refine Walk.val (G := Is (.pointer (some ⟨gx, 1, none⟩))) (stays_is _ _) rfl rfl (fun a w hm hd => ⟨wanted_plain rfl, st_fieldX1 rfl (by rw [hm.outer 1 (by kernel_rfl)]; rfl)⟩) ?_
  refine Walk.val (G := Is (.int .i64 (s.low : Int))) (stays_is _ _) rfl rfl (fun a w hm hd => ⟨wanted_plain rfl, st_cell rfl (fun _ => by kernel_rfl) (hd.at_ 8 rfl rfl rfl rfl) ((HR0.out.grown0 (GrownX.none2 hm.grow)).cell (j := 1) rfl)⟩) ?_
  refine Walk.val (G := Is (.int .i64 ((s.low / 65536 : Nat) : Int))) (stays_is _ _) rfl rfl (fun a w hm hd => ⟨wanted_plain rfl, st_quo16 rfl (hd.at_ 9 rfl rfl rfl rfl) HLO.out⟩) ?_
  refine Walk.val (G := Is (.int .i64 ((s.low / 65536 % 256 : Nat) : Int))) (stays_is _ _) rfl rfl (fun a w hm hd => ⟨wanted_plain rfl, st_rem8 rfl (hd.at_ 10 rfl rfl rfl rfl) (by have := HLO.out; omega)⟩) ?_
  refine Walk.val (G := Is (.int .u8 ((s.low / 65536 % 256 : Nat) : Int))) (stays_is _ _) rfl rfl (fun a w hm hd => ⟨wanted_plain rfl, st_conv38 rfl (hd.at_ 11 rfl rfl rfl rfl) (by omega)⟩) ?_
  refine Walk.val (G := Is (.pointer (some ⟨gx, 1, none⟩))) (stays_is _ _) rfl rfl (fun a w hm hd => ⟨wanted_plain rfl, st_fieldX1 rfl (by rw [hm.outer 1 (by kernel_rfl)]; rfl)⟩) ?_
  refine Walk.val (G := Is (.int .i64 (s.low : Int))) (stays_is _ _) rfl rfl (fun a w hm hd => ⟨wanted_plain rfl, st_cell rfl (fun _ => by kernel_rfl) (hd.at_ 13 rfl rfl rfl rfl) ((HR0.out.grown0 (GrownX.none2 hm.grow)).cell (j := 1) rfl)⟩) ?_
  refine Walk.val (G := Is (.int .i64 ((s.low / 256 : Nat) : Int))) (stays_is _ _) rfl rfl (fun a w hm hd => ⟨wanted_plain rfl, st_quo8 rfl (hd.at_ 14 rfl rfl rfl rfl) HLO.out⟩) ?_
  refine Walk.val (G := Is (.int .i64 ((s.low / 256 % 256 : Nat) : Int))) (stays_is _ _) rfl rfl (fun a w hm hd => ⟨wanted_plain rfl, st_rem8 rfl (hd.at_ 15 rfl rfl rfl rfl) (by have := HLO.out; omega)⟩) ?_
  refine Walk.val (G := Is (.int .u8 ((s.low / 256 % 256 : Nat) : Int))) (stays_is _ _) rfl rfl (fun a w hm hd => ⟨wanted_plain rfl, st_conv38 rfl (hd.at_ 16 rfl rfl rfl rfl) (by omega)⟩) ?_
  refine Walk.val (G := Is (.pointer (some ⟨gx, 1, none⟩))) (stays_is _ _) rfl rfl (fun a w hm hd => ⟨wanted_plain rfl, st_fieldX1 rfl (by rw [hm.outer 1 (by kernel_rfl)]; rfl)⟩) ?_
  refine Walk.val (G := Is (.int .i64 (s.low : Int))) (stays_is _ _) rfl rfl (fun a w hm hd => ⟨wanted_plain rfl, st_cell rfl (fun _ => by kernel_rfl) (hd.at_ 18 rfl rfl rfl rfl) ((HR0.out.grown0 (GrownX.none2 hm.grow)).cell (j := 1) rfl)⟩) ?_
  refine Walk.val (G := Is (.int .i64 ((s.low % 256 : Nat) : Int))) (stays_is _ _) rfl rfl (fun a w hm hd => ⟨wanted_plain rfl, st_rem8 rfl (hd.at_ 19 rfl rfl rfl rfl) (by have := HLO.out; omega)⟩) ?_
  refine Walk.val (G := Is (.int .u8 ((s.low % 256 : Nat) : Int))) (stays_is _ _) rfl rfl (fun a w hm hd => ⟨wanted_plain rfl, st_conv38 rfl (hd.at_ 20 rfl rfl rfl rfl) (by omega)⟩) ?_
  refine Walk.makeC (G := fun u W => Rd W u (bytesV (lowB s.low))) (fun _ _ _ _ _ h hg => Rd.grown0 h hg) rfl rfl (fun a w hm _ hd => ⟨wanted_plain rfl, _, _, ex_build4C rfl (hd.at_ 7 rfl rfl rfl rfl) (hd.at_ 12 rfl rfl rfl rfl) (hd.at_ 17 rfl rfl rfl rfl) (hd.at_ 21 rfl rfl rfl rfl), grown_alloc (grown_refl _ _) _, by
    rw [lowB_cells HLO.out]
    exact Rd.new w _ 5 (0, 0) 4 (by simp) (by decide)⟩) ?_
  intro a9 V9 hm9 hall
  have ho6 : V9.ownsRow W0.heap.size 5 1 (a9.eval (.tmp 6)) s.out.length (bytesV s.out) := hall 3 _ _ rfl rfl
  have hr25 : Rd V9 (a9.eval (.tmp 25)) (bytesV (lowB s.low)) := hall 22 _ _ rfl rfl
  have hfr := hm9.frame
  simp only [List.take_succ_cons, List.take_zero, List.filterMap_cons, List.filterMap_nil, List.foldl_cons, List.foldl_nil] at hfr
  have hg9 := GrownX.none2 hm9.grow
  generalize he3 : a9.eval (.tmp 3) = v3 at hfr
  generalize he4 : a9.eval (.tmp 4) = v4 at hfr
  generalize he5 : a9.eval (.tmp 5) = v5 at hfr
  generalize he6 : a9.eval (.tmp 6) = v6 at hfr ho6
  generalize he7 : a9.eval (.tmp 7) = v7 at hfr
  generalize he8 : a9.eval (.tmp 8) = v8 at hfr
  generalize he9 : a9.eval (.tmp 9) = v9 at hfr
  generalize he10 : a9.eval (.tmp 10) = v10 at hfr
  generalize he11 : a9.eval (.tmp 11) = v11 at hfr
  generalize he12 : a9.eval (.tmp 12) = v12 at hfr
  generalize he13 : a9.eval (.tmp 13) = v13 at hfr
  generalize he14 : a9.eval (.tmp 14) = v14 at hfr
  generalize he15 : a9.eval (.tmp 15) = v15 at hfr
  generalize he16 : a9.eval (.tmp 16) = v16 at hfr
  generalize he17 : a9.eval (.tmp 17) = v17 at hfr
  generalize he18 : a9.eval (.tmp 18) = v18 at hfr
  generalize he19 : a9.eval (.tmp 19) = v19 at hfr
  generalize he20 : a9.eval (.tmp 20) = v20 at hfr
  generalize he21 : a9.eval (.tmp 21) = v21 at hfr
  generalize he22 : a9.eval (.tmp 22) = v22 at hfr
  generalize he23 : a9.eval (.tmp 23) = v23 at hfr
  generalize he24 : a9.eval (.tmp 24) = v24 at hfr
  generalize he25 : a9.eval (.tmp 25) = v25 at hfr hr25
  clear hall hm9
  refine wpList_append_bytes _ rfl (.tmp 6) (.tmp 25) rfl W0.heap.size v6 s.out.length (bytesV s.out) he6 ho6 v25 (lowB s.low) he25 hr25 (by have := HL.out; simp [lowB]; omega) hg9.size ?_
  intro v' w4 ho4 hg4 hat4
  have HGN := Lib.hid (HG0.out.trans (grown_new hg9 hg4 (fun b hb => (ho6.lt b hb).1)))
  rw [← bytesV_app] at ho4
  have HRD4 := Lib.hid (show Rd w4 v' (bytesV (s.out ++ lowB s.low)) ∧ ∀ b, v'.ownBlock = some b → w.heap.size ≤ b from ⟨Rd.of_own ho4, fun b hb => Nat.le_trans HG0.out.size (ho4.lt b hb).1⟩)
  clear ho6 hr25 ho4 hg4 hat4 hg9 he3 he4 he5 he6 he7 he8 he9 he10 he11 he12 he13 he14 he15 he16 he17 he18 he19 he20 he21 he22 he23 he24 he25
  rw [hfr]
  clear hfr
  go_simp
  go_wp2
  go_ret
  exact ⟨_, rfl, HRD4.out.1, HGN.out, HRD4.out.2⟩
theorem rend_any (v : Value) (s : Cst) (w : World) (hr : Rd w v (bytesV s.out)) (hlo : s.low < 4294967296) (hl : s.out.length ≤ 100000) :
    Calls Try.prog 16 #[cV v s] w (fun e w' => ∃ u, e = .returned u ∧ Rd w' u (bytesV (endS s)) ∧ w.grownBy w' none) :=
  (rend_new v s w hr hlo hl).mono fun _ _ ⟨u, h1, h2, h3, _⟩ => ⟨u, h1, h2, h3⟩
end Go.Proofs.Ytohndlfekecfoaa
