/-
  The document's own put of layer 10, over this program.
-/
import Derived.Test.YtohndlfekecfoaaRcoCarry
import Derived.Test.YtohndlfekecfoaaAppEmpty
namespace Go.Proofs.Ytohndlfekecfoaa
set_option maxRecDepth 1000000
open Go.RowKit

/-- A writer of the document's, as a value. -/
def cV (v : Value) (s : Cst) : Value := .agg #[v, .int .i64 (s.low : Int), .int .i64 (s.width : Int)]
def CVal (v0 : Value) (O : List UInt8) (s : Cst) (w : World) (e : Ending) (w' : World) : Prop := ∃ v, e = .returned (cV v s) ∧ Rd w' v (bytesV s.out) ∧ w.grownBy w' none ∧ (s.out ≠ [] → ∀ k, v.ownBlock = some k → (O ≠ [] ∧ v0.ownBlock = some k) ∨ w.heap.size ≤ k)
/-- The width in a box. -/
def boxW (g : Nat) (W : World) : Nat := match W.cell? ⟨g, 2, none⟩ with
  | some (.int _ z) => 1000000000000 - z.toNat
  | _ => 0
/-- The box of a writer, ahead of a round. -/
structure Bx (v0 : Value) (O : List UInt8) (w W : World) (gx : Nat) (v : Value) (S tgt : Cst) : Prop where
  src : S.out ≠ [] → ∀ k, v.ownBlock = some k → (O ≠ [] ∧ v0.ownBlock = some k) ∨ w.heap.size ≤ k
  row : Row W gx 30 [v, .int .i64 (S.low : Int), .int .i64 (S.width : Int)]
  rd : Rd W v (bytesV S.out)
  ne : S.out ≠ [] → ∀ k, v.ownBlock = some k → k ≠ gx ∧ k ≠ gx + 1
  res : Row W (gx + 1) 30 [.slice none 0 0, .int .i64 0, .int .i64 0]
  grow : w.grownBy W none
  new : w.heap.size ≤ gx
  wid_ : wid S = tgt
  low : S.low < 4294967296
  least : 65536 ≤ S.width
  most : S.width < 4294967296
  len : S.width < 16777216 → S.out.length ≤ 100001
theorem Bx.grown0 {v0 : Value} {O : List UInt8} {w W W' : World} {gx : Nat} {v : Value} {S tgt : Cst} (h : Bx v0 O w W gx v S tgt) (hg : W.grownBy W' none) : Bx v0 O w W' gx v S tgt :=
  ⟨h.src, h.row.grown0 hg, h.rd.grown0 hg, h.ne, h.res.grown0 hg, h.grow.trans hg, h.new, h.wid_, h.low, h.least, h.most, h.len⟩
theorem Bx.box {v0 : Value} {O : List UInt8} {w W : World} {gx : Nat} {v : Value} {S tgt : Cst} (h : Bx v0 O w W gx v S tgt) : boxW gx W = 1000000000000 - S.width := by
  have := h.row.cell (j := 2) rfl
  unfold boxW
  rw [this]
  simp
theorem Rd.keepE {w w' : World} {v : Value} {xs : List Value} (h : Rd w v xs) (hk : xs ≠ [] → ∀ b, v.ownBlock = some b → b < w.heap.size → w'.heap[b]? = w.heap[b]?) : Rd w' v xs := by
  by_cases he : xs = []
  · subst he
    obtain ⟨A, c, rfl, h1, h2, h3⟩ := h
    exact ⟨A, c, rfl, h1, h2, fun h => absurd rfl h⟩
  · exact h.keep (hk he)
theorem bytesV_ne {l : List UInt8} (h : bytesV l ≠ []) : l ≠ [] := by rintro rfl; exact h rfl
section
variable {o : Oper} {a : Act} {w : World}
theorem st_fieldX0 {x : Operand} {g : Nat} (h : o.op = .fieldAddr 30 x 0) (hx : Is (.pointer (some ⟨g, 0, none⟩)) (a.eval x) w) : Runs (Is (.pointer (some ⟨g, 0, none⟩))) o a w := by
  have hx' : a.eval x = .pointer (some ⟨g, 0, none⟩) := hx
  refine ⟨_, ?_, rfl⟩
  simp only [execOp, h, hx']
  kernel_rfl
theorem ex_fieldX0 {x : Operand} {g : Nat} (h : o.op = .fieldAddr 30 x 0) (hx : a.eval x = .pointer (some ⟨g, 0, none⟩)) : (execOp a.eval o).run Try.prog w = .ok (.value (.pointer (some ⟨g, 0, none⟩))) w := by
  simp only [execOp, h, hx]
  kernel_rfl
theorem st_fieldX1 {x : Operand} {g : Nat} (h : o.op = .fieldAddr 30 x 1) (hx : Is (.pointer (some ⟨g, 0, none⟩)) (a.eval x) w) : Runs (Is (.pointer (some ⟨g, 1, none⟩))) o a w := by
  have hx' : a.eval x = .pointer (some ⟨g, 0, none⟩) := hx
  refine ⟨_, ?_, rfl⟩
  simp only [execOp, h, hx']
  kernel_rfl
theorem st_quo24 {x : Operand} {m : Nat} (h : o.op = .binOp .quo 3 x (.const (.int .i64 16777216)) 3) (hx : Is (.int .i64 (m : Int)) (a.eval x) w) (hm : m < 4294967296) : Runs (Is (.int .i64 ((m / 16777216 : Nat) : Int))) o a w := by
  have hx' : a.eval x = .int .i64 (m : Int) := hx
  have hc : a.eval (.const (.int .i64 16777216)) = .int .i64 16777216 := rfl
  have ht : (m : Int).tdiv 16777216 = (m : Int) / 16777216 := Int.tdiv_eq_ediv_of_nonneg (by omega)
  have hw : IntKind.i64.wrap ((m : Int) / 16777216) = (m : Int) / 16777216 := by rw [IntKind.wrap_i64]; omega
  refine ⟨_, ?_, rfl⟩
  simp only [execOp, h, hx', hc]
  simp [go_sem, ht, hw]
theorem st_conv38 {x : Operand} {n : Nat} (h : o.op = .convert 3 5 x) (hx : Is (.int .i64 (n : Int)) (a.eval x) w) (hn : n < 256) : Runs (Is (.int .u8 (n : Int))) o a w := by
  have hx' : a.eval x = .int .i64 (n : Int) := hx
  have hw : IntKind.u8.wrap (n : Int) = (n : Int) := by rw [IntKind.wrap_u8]; omega
  refine ⟨_, ?_, rfl⟩
  simp only [execOp, h, hx']
  simp [go_sem, hw]
theorem ex_build0C (h : o.op = .buildSlice 28 0 #[]) : (execOp a.eval o).run Try.prog w = .ok (.value (.slice (some ⟨w.heap.size, 0, none⟩) 0 0)) (w.alloc (.cells #[] 5)) := by
  simp only [execOp, h]
  simp [go_sem]
theorem ex_appendE {x y : Operand} (ho : o.op = .call { callee := .builtin .append, args := #[x, y], argTypes := #[28, 28] })
    (H g : Nat) (hx : a.eval x = .slice (some ⟨g, 0, none⟩) 0 0) (hown : w.ownsRow H 5 1 (.slice (some ⟨g, 0, none⟩) 0 0) 0 []) (hH : H ≤ w.heap.size) (u : Value) (l : List UInt8) (hy : a.eval y = u) (hr : Rd w u (bytesV l)) (hl : l.length ≤ 1000000000) :
    ∃ v' w', (execOp a.eval o).run Try.prog w = .ok (.value v') w' ∧ w.grownBy w' none ∧ w'.ownsRow H 5 1 v' l.length (bytesV l) := by
  obtain ⟨v', w', hrun, h2, h3⟩ := run_append_empty w H g o.type hown hH u l hr hl
  refine ⟨v', w', ?_, h3, h2⟩
  unfold execOp
  simp only [ho, resolve, invoke, builtin, Sem.run_bind, Sem.run_pure, Result.andThen_ok, List.map_toArray, List.map_cons, List.map_nil, hx, hy, hrun]
end

set_option maxRecDepth 1000000 in
set_option maxHeartbeats 8000000 in
theorem rput0 (v : Value) (s : Cst) (bound : Nat) (w : World) (hr : Rd w v (bytesV s.out)) (hs : Okc s) (hb : Okb s bound) (hl : s.out.length ≤ 100000) :
    Calls Try.prog 25 #[cV v s, .int .i64 (bound : Int), .int .i64 0] w (CVal v s.out (putS s bound false) w) := by
  have HE := Lib.hid (show putS s bound false = wid ⟨s.out, s.low, bound⟩ from rfl)
  rw [HE.out]
  obtain ⟨A, c, rfl⟩ := hr.form
  rw [bytesV_len] at *
  have HR := Lib.hid hr
  have HL := Lib.hid hl
  have h1 := hs.low
  have h3 := hs.most
  have b1 := hb.least
  have b2 := hb.most
  obtain ⟨gx, hgx⟩ : ∃ g, w.heap.size = g := ⟨_, rfl⟩
  obtain ⟨W0, hW0⟩ : ∃ W, (w.alloc (.cells #[.slice A s.out.length c, .int .i64 (s.low : Int), .int .i64 (s.width : Int)] 30)).alloc (.cells #[.slice none 0 0, .int .i64 0, .int .i64 0] 30) = W := ⟨_, rfl⟩
  have R0 := show Row W0 gx 30 [.slice A s.out.length c, .int .i64 (s.low : Int), .int .i64 (s.width : Int)] by rw [← hW0]; exact (Row.newAt w _ [.slice A s.out.length c, .int .i64 (s.low : Int), .int .i64 (s.width : Int)] hgx).alloc _
  have Z0 := show Row W0 (gx + 1) 30 [.slice none 0 0, .int .i64 0, .int .i64 0] by rw [← hW0]; exact Row.newAt _ _ [.slice none 0 0, .int .i64 0, .int .i64 0] (by simp [hgx])
  have hG0 : w.grownBy W0 none := by rw [← hW0]; exact grown_alloc (grown_alloc (grown_refl _ _) _) _
  obtain ⟨W1, hW1⟩ : ∃ W, W0.setCell ⟨gx, 2, none⟩ (.int .i64 (bound : Int)) = W := ⟨_, rfl⟩
  have f2 := R0.frozen 2
  have k2 := R0.cell (j := 2) rfl
  have R1 := R0.set 2 (.int .i64 (bound : Int))
  have G1 := grown_set W0 gx 2 (.int .i64 (bound : Int))
  rw [hW1] at R1 G1
  have R1 : Row W1 gx _ [_, _, .int .i64 (bound : Int)] := R1
  have hnk : s.out ≠ [] → ∀ k, (Value.slice A s.out.length c).ownBlock = some k → k ≠ gx ∧ k ≠ gx + 1 := fun he k hk => by
    obtain ⟨ad, e, hc⟩ := hr.cells (by simpa [bytesV] using he)
    subst e
    have := World.block_lt_of_cell? w _ (hc 0 _ (List.getElem?_eq_getElem (by rw [bytesV_len]; exact List.length_pos_iff.2 he)))
    rw [add_block] at this
    cases hk
    omega
  have HX := Lib.hid (show Bx (.slice A s.out.length c) s.out w W1 gx (.slice A s.out.length c) ⟨s.out, s.low, bound⟩ (wid ⟨s.out, s.low, bound⟩) from ⟨fun he k hk => .inl ⟨he, hk⟩, R1, (hr.grown0 hG0).keepE (fun he b hb hlt => G1.block b hlt (fun e => by cases e; exact (hnk (bytesV_ne he) gx hb).1 rfl)), hnk, Z0.grown G1 (by simp), grown_own hG0 G1 (by omega), by omega, rfl, h1, b1, by show bound < _; omega, fun _ => by show s.out.length ≤ _; omega⟩)
  have c1 := R1.cell (j := 1) rfl
  have hd1 : decide (4294967296 ≤ (s.low : Int)) = false := by simp; omega
  have hd1' : decide (4294967296 ≤ s.low) = false := by simp; omega
  clear R0 Z0 hG0 R1 G1 hr hs hb hl h1 h3 b1 b2 hnk
  unfold cV
  go_enter Try.func25, Try.ntmps25
  go_wp2
  go_loopw [34] (fun _ W => ∃ (v : Value) (S : Cst), Bx (.slice A s.out.length c) s.out w W gx v S (wid ⟨s.out, s.low, bound⟩)) (fun _ W => boxW gx W)
  case atStart => exact ⟨_, _, HX.out⟩
  case round =>
    obtain ⟨v, S, hbx⟩ := hrel
    obtain ⟨A', c', rfl⟩ := hbx.rd.form
    rw [bytesV_len] at *
    have HB := Lib.hid hbx
    have e0 := hbx.row.cell (j := 0) rfl
    have e1 := hbx.row.cell (j := 1) rfl
    have e2 := hbx.row.cell (j := 2) rfl
    have hlow := hbx.low
    have hw2 := hbx.most
    have HM := Lib.hid hbx.box
    have HH := Lib.hid (show wr.heap.size ≤ wr.heap.size from Nat.le_refl _)
    clear hbx HX
    by_cases hlt : S.width < 16777216
    · have hd : decide ((S.width : Int) < 16777216) = true := by simp; omega
      have hd' : decide (S.width < 16777216) = true := by simp; omega
      have HLT := Lib.hid hlt
      go_wp2
      refine wp_region_walk3 9 [] dis_nil (by kernel_rfl) (by kernel_rfl) (by kernel_rfl) ?_
      simp only [List.take_succ_cons, List.take_zero, List.drop_succ_cons, List.drop_zero]
      refine Walk.makeC (G := fun u W => ∃ g, u = .slice (some ⟨g, 0, none⟩) 0 0 ∧ W.ownsRow wr.heap.size 5 1 u 0 []) (fun _ _ _ _ _ ⟨g, h1, h2⟩ hg => ⟨g, h1, own_keepN h2 hg⟩) rfl rfl (fun a w hm _ hd => ⟨wanted_plain rfl, _, _, ex_build0C rfl, grown_alloc (grown_refl _ _) _, _, rfl, own_empty w _ hm.grow.size⟩) ?_
      refine Walk.val (G := Is (.pointer (some ⟨gx, 0, none⟩))) (stays_is _ _) rfl rfl (fun a w hm hd => ⟨wanted_plain rfl, st_fieldX0 rfl (by rw [hm.outer 3 (by kernel_rfl)]; rfl)⟩) ?_
      refine Walk.val (G := Is (.slice A' S.out.length c')) (stays_is _ _) rfl rfl (fun a w hm hd => ⟨wanted_plain rfl, st_cell rfl (fun _ => by kernel_rfl) (hd.at_ 1 rfl rfl rfl rfl) ((HB.out.row.grown0 (GrownX.none2 hm.grow)).cell (j := 0) rfl)⟩) ?_
      refine Walk.makeC (G := fun u W => W.ownsRow wr.heap.size 5 1 u S.out.length (bytesV S.out)) (fun _ _ _ _ _ h hg => own_keepN h hg) rfl rfl (fun a w hm _ hd => ⟨wanted_plain rfl, by
        obtain ⟨g0, h0, ho⟩ := hd.at_ 0 rfl rfl rfl rfl
        exact ex_appendE rfl wr.heap.size g0 h0 (by rw [← h0]; exact ho) hm.grow.size _ S.out (show a.eval (.tmp 37) = _ from hd.at_ 2 rfl rfl rfl rfl) (HB.out.rd.grown0 (GrownX.none2 hm.grow)) (by have := HB.out.len HLT.out; omega)⟩) ?_
      refine Walk.val (G := Is (.pointer (some ⟨gx, 1, none⟩))) (stays_is _ _) rfl rfl (fun a w hm hd => ⟨wanted_plain rfl, st_fieldX1 rfl (by rw [hm.outer 3 (by kernel_rfl)]; rfl)⟩) ?_
      refine Walk.val (G := Is (.int .i64 (S.low : Int))) (stays_is _ _) rfl rfl (fun a w hm hd => ⟨wanted_plain rfl, st_cell rfl (fun _ => by kernel_rfl) (hd.at_ 4 rfl rfl rfl rfl) ((HB.out.row.grown0 (GrownX.none2 hm.grow)).cell (j := 1) rfl)⟩) ?_
      refine Walk.val (G := Is (.int .i64 ((S.low / 16777216 : Nat) : Int))) (stays_is _ _) rfl rfl (fun a w hm hd => ⟨wanted_plain rfl, st_quo24 rfl (hd.at_ 5 rfl rfl rfl rfl) HB.out.low⟩) ?_
      refine Walk.val (G := Is (.int .u8 ((S.low / 16777216 : Nat) : Int))) (stays_is _ _) rfl rfl (fun a w hm hd => ⟨wanted_plain rfl, st_conv38 rfl (hd.at_ 6 rfl rfl rfl rfl) (by have := HB.out.low; omega)⟩) ?_
      refine Walk.makeC (G := fun u W => Rd W u (bytesV [UInt8.ofNat (S.low / 16777216)])) (fun _ _ _ _ _ h hg => Rd.grown0 h hg) rfl rfl (fun a w hm _ hd => ⟨wanted_plain rfl, _, _, ex_build1C rfl (hd.at_ 7 rfl rfl rfl rfl) rfl, grown_alloc (grown_refl _ _) _, by
        have h1 := Rd.one w (Value.int .u8 ((S.low / 16777216 : Nat) : Int)) 5
        rw [show bytesV [UInt8.ofNat (S.low / 16777216)] = [Value.int .u8 ((S.low / 16777216 : Nat) : Int)] by simp [bytesV, byteV]; have := HB.out.low; omega]
        exact h1⟩) ?_
      intro a9 V9 hm9 hall
      have ho38 : V9.ownsRow wr.heap.size 5 1 (a9.eval (.tmp 38)) S.out.length (bytesV S.out) := hall 3 _ _ rfl rfl
      have hr43 : Rd V9 (a9.eval (.tmp 43)) (bytesV [UInt8.ofNat (S.low / 16777216)]) := hall 8 _ _ rfl rfl
      have hfr := hm9.frame
      simp only [List.take_succ_cons, List.take_zero, List.filterMap_cons, List.filterMap_nil, List.foldl_cons, List.foldl_nil] at hfr
      have hg9 := GrownX.none2 hm9.grow
      generalize he35 : a9.eval (.tmp 35) = v35 at hfr
      generalize he36 : a9.eval (.tmp 36) = v36 at hfr
      generalize he37 : a9.eval (.tmp 37) = v37 at hfr
      generalize he38 : a9.eval (.tmp 38) = v38 at hfr ho38
      generalize he39 : a9.eval (.tmp 39) = v39 at hfr
      generalize he40 : a9.eval (.tmp 40) = v40 at hfr
      generalize he41 : a9.eval (.tmp 41) = v41 at hfr
      generalize he42 : a9.eval (.tmp 42) = v42 at hfr
      generalize he43 : a9.eval (.tmp 43) = v43 at hfr hr43
      clear hall hm9
      refine wpList_append_bytes _ rfl (.tmp 38) (.tmp 43) rfl wr.heap.size v38 S.out.length (bytesV S.out) he38 ho38 v43 [UInt8.ofNat (S.low / 16777216)] he43 hr43 (by have := HB.out.len HLT.out; simp; omega) hg9.size ?_
      intro v' w4 ho4 hg4 hat4
      have hgn : wr.grownBy w4 none := grown_new hg9 hg4 (fun b hb => (ho38.lt b hb).1)
      have HB4 := Lib.hid (HB.out.grown0 hgn)
      rw [← bytesV_app] at ho4
      obtain ⟨A4, c4, rfl⟩ := own_form ho4
      have hnn : ∀ k, (Value.slice A4 (S.out.length + 1) c4).ownBlock = some k → k ≠ gx ∧ k ≠ gx + 1 := fun k hk => by
        have h1 := (ho4.lt k hk).1
        have h2 := HB.out.row.lt
        have h3 := HB.out.res.lt
        omega
      have HNN := Lib.hid hnn
      have HSRC := Lib.hid (show ∀ k, (Value.slice A4 (S.out.length + 1) c4).ownBlock = some k → w.heap.size ≤ k from fun k hk => Nat.le_trans HB.out.grow.size (ho4.lt k hk).1)
      have HRD4 := Lib.hid (show Rd w4 (.slice A4 (S.out.length + 1) c4) (bytesV (S.out ++ [UInt8.ofNat (S.low / 16777216)])) from Rd.of_own ho4)
      have f0 := HB4.out.row.frozen 0
      have f1 := HB4.out.row.frozen 1
      have f2 := HB4.out.row.frozen 2
      have k0 := HB4.out.row.cell (j := 0) rfl
      have k1 := HB4.out.row.cell (j := 1) rfl
      have k2 := HB4.out.row.cell (j := 2) rfl
      have hrem : (S.low : Int).tmod 16777216 = ((S.low % 16777216 : Nat) : Int) := by rw [Int.tmod_eq_emod_of_nonneg (by omega)]; simp
      have hmul : ((S.low % 16777216 : Nat) : Int) * 256 = ((S.low % 16777216 * 256 : Nat) : Int) := by omega
      have hmulw : (S.width : Int) * 256 = ((S.width * 256 : Nat) : Int) := by omega
      have HWID := Lib.hid (show wid ⟨S.out ++ [UInt8.ofNat (S.low / 16777216)], S.low % 16777216 * 256, S.width * 256⟩ = wid ⟨s.out, s.low, bound⟩ by
        rw [← HB.out.wid_]
        have h1 := HB.out.least
        have h2 : wid S = ⟨S.out ++ [UInt8.ofNat (S.low / 16777216)], S.low % 16777216 * 256, S.width * 256⟩ := by rw [wid, if_pos HLT.out]; rfl
        rw [h2, wid, if_neg (by show ¬ S.width * 256 < 16777216; omega)])
      have HLL := Lib.hid (show S.low % 16777216 * 256 < 4294967296 ∧ 65536 ≤ S.width * 256 ∧ S.width * 256 < 4294967296 ∧ S.width < S.width * 256 ∧ 16777216 ≤ S.width * 256 from by have := HB.out.least; have := HLT.out; omega)
      generalize S.low % 16777216 * 256 = L' at *
      generalize S.width * 256 = M' at *
      clear ho38 hr43 ho4 hg4 hat4 hg9 hgn he35 he36 he37 he38 he39 he40 he41 he42 he43 e0 e1 e2
      have x3 : (a9.put (some 44) (.slice A4 (S.out.length + 1) c4)).eval (.tmp 3) = .pointer (some ⟨gx, 0, none⟩) := by rw [hfr]; kernel_rfl
      have x45 : ((a9.put (some 44) (.slice A4 (S.out.length + 1) c4)).put (some 45) (.pointer (some ⟨gx, 0, none⟩))).eval (.tmp 45) = .pointer (some ⟨gx, 0, none⟩) := by rw [hfr]; kernel_rfl
      have x44 : ((a9.put (some 44) (.slice A4 (S.out.length + 1) c4)).put (some 45) (.pointer (some ⟨gx, 0, none⟩))).eval (.tmp 44) = .slice A4 (S.out.length + 1) c4 := by rw [hfr]; kernel_rfl
      refine wpList_runs rfl (v := .pointer (some ⟨gx, 0, none⟩)) (ex_fieldX0 rfl x3) ?_
      refine wpList_storeB rfl rfl (.tmp 45) (.tmp 44) rfl gx 0 _ _ A4 _ c4 x45 x44 HB4.out.row (by simp) ?_
      clear x3 x44 x45
      obtain ⟨W5, hW5⟩ : ∃ W, w4.setCell ⟨gx, 0, none⟩ (.slice A4 (S.out.length + 1) c4) = W := ⟨_, rfl⟩
      have R5 := HB4.out.row.set 0 (.slice A4 (S.out.length + 1) c4)
      have G5 := grown_set w4 gx 0 (.slice A4 (S.out.length + 1) c4)
      rw [hW5] at R5 G5
      rw [hW5]
      simp only [List.set_cons_zero] at R5
      have Z5 := HB4.out.res.grown G5 (by simp)
      have HG5 := Lib.hid (grown_own HB4.out.grow G5 HB4.out.new)
      have RD5 := HRD4.out.keepE (fun _ b hb hlt => G5.block b hlt (fun e => by cases e; exact (hnn gx hb).1 rfl))
      have q1 := R5.frozen 1
      have q2 := R5.frozen 2
      have q3 := R5.cell (j := 1) rfl
      have q4 := R5.cell (j := 2) rfl
      have R5 := Lib.hid R5
      have Z5 := Lib.hid Z5
      have RD5 := Lib.hid RD5
      clear f0 f1 f2 k0 k1 k2 hnn hW5 G5
      unfold wpList
      rw [hfr]
      clear hfr
      go_simp
      go_wp2
      have hz1 : (S.low : Int) % 16777216 * 256 = (L' : Int) := by omega
      rw [hz1]
      have R6 := R5.out.set 1 (.int .i64 (L' : Int))
      have G6 := grown_set W5 gx 1 (.int .i64 (L' : Int))
      have Z6 := Z5.out.grown G6 (by simp)
      have RD6 := RD5.out.keepE (fun _ b hb hlt => G6.block b hlt (fun e => by cases e; exact (HNN.out gx hb).1 rfl))
      have HG6 := grown_own HG5.out G6 HB4.out.new
      clear q1 q2 q3 q4
      generalize W5.setCell ⟨gx, 1, none⟩ (.int .i64 (L' : Int)) = W6 at *
      have R7 := R6.set 2 (.int .i64 (M' : Int))
      have G7 := grown_set W6 gx 2 (.int .i64 (M' : Int))
      have Z7 := Z6.grown G7 (by simp)
      have RD7 := RD6.keepE (fun _ b hb hlt => G7.block b hlt (fun e => by cases e; exact (HNN.out gx hb).1 rfl))
      have HG7 := grown_own HG6 G7 HB4.out.new
      generalize W6.setCell ⟨gx, 2, none⟩ (.int .i64 (M' : Int)) = W7 at *
      have B7 : Bx (.slice A s.out.length c) s.out w W7 gx (.slice A4 (S.out.length + 1) c4) ⟨S.out ++ [UInt8.ofNat (S.low / 16777216)], L', M'⟩ (wid ⟨s.out, s.low, bound⟩) := ⟨fun _ k hk => .inr (HSRC.out k hk), R7, RD7, fun _ => HNN.out, Z7, HG7, HB4.out.new, HWID.out, HLL.out.1, HLL.out.2.1, HLL.out.2.2.1, fun h => by have h1 := HLL.out; have h2 := HB4.out.least; have h3 : M' < 16777216 := h; omega⟩
      refine ⟨⟨_, _, B7⟩, ?_⟩
      rw [B7.box, HM.out]
      have := HLL.out
      show 1000000000000 - M' < _
      omega
    · have hd : decide ((S.width : Int) < 16777216) = false := by simp; omega
      have hd' : decide (S.width < 16777216) = false := by simp; omega
      have HS := Lib.hid (show S = wid ⟨s.out, s.low, bound⟩ by rw [← HB.out.wid_, wid, if_neg hlt])
      have HZ := Lib.hid HB.out.res
      have HRW := Lib.hid HB.out.row
      go_wp2_with (first
        | refine wpList_load_row _ rfl _ _ rfl gx 30 _ _ rfl HRW.out Try.underlying30 rfl (by kernel_rfl) ?_
        | (refine wpList_store_row _ rfl rfl _ _ 30 rfl (gx + 1) 30 _ [.slice A' S.out.length c', .int .i64 (S.low : Int), .int .i64 (S.width : Int)] rfl rfl HZ.out rfl (by simp [Value.oneCell']) (by kernel_rfl) ?_
           intro w5 hr5 hg5))
      refine bodyPost_ret (v := cV (.slice A' S.out.length c') S) (results_row Try.results25 (gx + 1) 30 _ _ rfl hr5 Try.underlying30 rfl (by kernel_rfl)) rfl ?_
      rw [← HS.out]
      exact ⟨_, rfl, HB.out.rd.keepE (fun he b hb hlt => hg5.block b hlt (fun e => by cases e; exact (HB.out.ne (bytesV_ne he) _ hb).2 rfl)), grown_own HB.out.grow hg5 (by have := HB.out.new; omega), HB.out.src⟩

set_option maxRecDepth 1000000 in
set_option maxHeartbeats 8000000 in
theorem rput1 (v : Value) (s : Cst) (bound : Nat) (w : World) (hr : Rd w v (bytesV s.out)) (hs : Okc s) (hb : Okb s bound) (hl : s.out.length ≤ 100000) :
    Calls Try.prog 25 #[cV v s, .int .i64 (bound : Int), .int .i64 1] w (CVal v s.out (putS s bound true) w) := by
  have HE := Lib.hid (show putS s bound true = wid ⟨if 4294967296 ≤ s.low + bound then incr s.out else s.out, (s.low + bound) % 4294967296, s.width - bound⟩ from rfl)
  rw [HE.out]
  clear HE
  obtain ⟨A, c, rfl⟩ := hr.form
  rw [bytesV_len] at *
  have HR := Lib.hid hr
  have HL := Lib.hid hl
  have h1 := hs.low
  have h3 := hs.most
  have b1 := hb.least
  have b2 := hb.most
  obtain ⟨L, hL⟩ : ∃ L, s.low + bound = L := ⟨_, rfl⟩
  obtain ⟨M, hM⟩ : ∃ M, s.width - bound = M := ⟨_, rfl⟩
  rw [hL, hM]
  have hadd : (s.low : Int) + (bound : Int) = (L : Int) := by omega
  have hsub : (s.width : Int) - (bound : Int) = (M : Int) := by omega
  have hMb : M < 4294967296 := by omega
  have hLb : L < 8589934592 := by omega
  obtain ⟨gx, hgx⟩ : ∃ g, w.heap.size = g := ⟨_, rfl⟩
  obtain ⟨W0, hW0⟩ : ∃ W, (w.alloc (.cells #[.slice A s.out.length c, .int .i64 (s.low : Int), .int .i64 (s.width : Int)] 30)).alloc (.cells #[.slice none 0 0, .int .i64 0, .int .i64 0] 30) = W := ⟨_, rfl⟩
  have R0 := show Row W0 gx 30 [.slice A s.out.length c, .int .i64 (s.low : Int), .int .i64 (s.width : Int)] by rw [← hW0]; exact (Row.newAt w _ [.slice A s.out.length c, .int .i64 (s.low : Int), .int .i64 (s.width : Int)] hgx).alloc _
  have Z0 := show Row W0 (gx + 1) 30 [.slice none 0 0, .int .i64 0, .int .i64 0] by rw [← hW0]; exact Row.newAt _ _ [.slice none 0 0, .int .i64 0, .int .i64 0] (by simp [hgx])
  have hG0 : w.grownBy W0 none := by rw [← hW0]; exact grown_alloc (grown_alloc (grown_refl _ _) _) _
  obtain ⟨W1, hW1⟩ : ∃ W, W0.setCell ⟨gx, 1, none⟩ (.int .i64 (L : Int)) = W := ⟨_, rfl⟩
  have f1 := R0.frozen 1
  have k1 := R0.cell (j := 1) rfl
  have R1 := R0.set 1 (.int .i64 (L : Int))
  have G1 := grown_set W0 gx 1 (.int .i64 (L : Int))
  rw [hW1] at R1 G1
  have R1 : Row W1 gx _ [_, .int .i64 (L : Int), .int .i64 (s.width : Int)] := R1
  obtain ⟨W2, hW2⟩ : ∃ W, W1.setCell ⟨gx, 2, none⟩ (.int .i64 (M : Int)) = W := ⟨_, rfl⟩
  have f2 := R1.frozen 2
  have k2 := R1.cell (j := 2) rfl
  have R2 := R1.set 2 (.int .i64 (M : Int))
  have G2 := grown_set W1 gx 2 (.int .i64 (M : Int))
  rw [hW2] at R2 G2
  have R2 : Row W2 gx _ [.slice A s.out.length c, .int .i64 (L : Int), .int .i64 (M : Int)] := R2
  have hnk : s.out ≠ [] → ∀ k, (Value.slice A s.out.length c).ownBlock = some k → k ≠ gx ∧ k ≠ gx + 1 := fun he k hk => by
    obtain ⟨ad, e, hc⟩ := hr.cells (by simpa [bytesV] using he)
    subst e
    have := World.block_lt_of_cell? w _ (hc 0 _ (List.getElem?_eq_getElem (by rw [bytesV_len]; exact List.length_pos_iff.2 he)))
    rw [add_block] at this
    cases hk
    omega
  have keep : ∀ {U V : World}, U.grownBy V (some gx) → Rd U (.slice A s.out.length c) (bytesV s.out) → Rd V (.slice A s.out.length c) (bytesV s.out) := fun hG h => h.keepE (fun he b hb hlt => hG.block b hlt (fun e => by cases e; exact (hnk (bytesV_ne he) gx hb).1 rfl))
  have RD2 := keep G2 (keep G1 (hr.grown0 hG0))
  have HG2 := grown_own (grown_own hG0 G1 (by omega)) G2 (by omega)
  have Z2 := (Z0.grown G1 (by simp)).grown G2 (by simp)
  have c1 := R2.cell (j := 1) rfl
  by_cases hc : L < 4294967296
  · rw [if_neg (show ¬ 4294967296 ≤ L by omega), Nat.mod_eq_of_lt hc]
    obtain ⟨tgt, hT⟩ : ∃ t, wid ⟨s.out, L, M⟩ = t := ⟨_, rfl⟩
    rw [hT]
    have HX := Lib.hid (show Bx (.slice A s.out.length c) s.out w W2 gx (.slice A s.out.length c) ⟨s.out, L, M⟩ tgt from ⟨fun he k hk => .inl ⟨he, hk⟩, R2, RD2, hnk, Z2, HG2, by omega, hT, hc, by show 65536 ≤ M; omega, by show M < _; omega, fun _ => by show s.out.length ≤ _; omega⟩)
    have hd1 : decide (4294967296 ≤ (L : Int)) = false := by simp; omega
    have hd1' : decide (4294967296 ≤ L) = false := by simp; omega
    clear R0 Z0 hG0 R1 G1 R2 G2 RD2 HG2 Z2 keep hr hs hb hl h1 h3 b1 b2 hnk hL hM hT hc
    unfold cV
    go_enter Try.func25, Try.ntmps25
    go_wp2
    go_loopw [34] (fun _ W => ∃ (v : Value) (S : Cst), Bx (.slice A s.out.length c) s.out w W gx v S (tgt)) (fun _ W => boxW gx W)
    case atStart => exact ⟨_, _, HX.out⟩
    case round =>
      obtain ⟨v, S, hbx⟩ := hrel
      obtain ⟨A', c', rfl⟩ := hbx.rd.form
      rw [bytesV_len] at *
      have HB := Lib.hid hbx
      have e0 := hbx.row.cell (j := 0) rfl
      have e1 := hbx.row.cell (j := 1) rfl
      have e2 := hbx.row.cell (j := 2) rfl
      have hlow := hbx.low
      have hw2 := hbx.most
      have HM := Lib.hid hbx.box
      have HH := Lib.hid (show wr.heap.size ≤ wr.heap.size from Nat.le_refl _)
      clear hbx HX
      by_cases hlt : S.width < 16777216
      · have hd : decide ((S.width : Int) < 16777216) = true := by simp; omega
        have hd' : decide (S.width < 16777216) = true := by simp; omega
        have HLT := Lib.hid hlt
        go_wp2
        refine wp_region_walk3 9 [] dis_nil (by kernel_rfl) (by kernel_rfl) (by kernel_rfl) ?_
        simp only [List.take_succ_cons, List.take_zero, List.drop_succ_cons, List.drop_zero]
        refine Walk.makeC (G := fun u W => ∃ g, u = .slice (some ⟨g, 0, none⟩) 0 0 ∧ W.ownsRow wr.heap.size 5 1 u 0 []) (fun _ _ _ _ _ ⟨g, h1, h2⟩ hg => ⟨g, h1, own_keepN h2 hg⟩) rfl rfl (fun a w hm _ hd => ⟨wanted_plain rfl, _, _, ex_build0C rfl, grown_alloc (grown_refl _ _) _, _, rfl, own_empty w _ hm.grow.size⟩) ?_
        refine Walk.val (G := Is (.pointer (some ⟨gx, 0, none⟩))) (stays_is _ _) rfl rfl (fun a w hm hd => ⟨wanted_plain rfl, st_fieldX0 rfl (by rw [hm.outer 3 (by kernel_rfl)]; rfl)⟩) ?_
        refine Walk.val (G := Is (.slice A' S.out.length c')) (stays_is _ _) rfl rfl (fun a w hm hd => ⟨wanted_plain rfl, st_cell rfl (fun _ => by kernel_rfl) (hd.at_ 1 rfl rfl rfl rfl) ((HB.out.row.grown0 (GrownX.none2 hm.grow)).cell (j := 0) rfl)⟩) ?_
        refine Walk.makeC (G := fun u W => W.ownsRow wr.heap.size 5 1 u S.out.length (bytesV S.out)) (fun _ _ _ _ _ h hg => own_keepN h hg) rfl rfl (fun a w hm _ hd => ⟨wanted_plain rfl, by
          obtain ⟨g0, h0, ho⟩ := hd.at_ 0 rfl rfl rfl rfl
          exact ex_appendE rfl wr.heap.size g0 h0 (by rw [← h0]; exact ho) hm.grow.size _ S.out (show a.eval (.tmp 37) = _ from hd.at_ 2 rfl rfl rfl rfl) (HB.out.rd.grown0 (GrownX.none2 hm.grow)) (by have := HB.out.len HLT.out; omega)⟩) ?_
        refine Walk.val (G := Is (.pointer (some ⟨gx, 1, none⟩))) (stays_is _ _) rfl rfl (fun a w hm hd => ⟨wanted_plain rfl, st_fieldX1 rfl (by rw [hm.outer 3 (by kernel_rfl)]; rfl)⟩) ?_
        refine Walk.val (G := Is (.int .i64 (S.low : Int))) (stays_is _ _) rfl rfl (fun a w hm hd => ⟨wanted_plain rfl, st_cell rfl (fun _ => by kernel_rfl) (hd.at_ 4 rfl rfl rfl rfl) ((HB.out.row.grown0 (GrownX.none2 hm.grow)).cell (j := 1) rfl)⟩) ?_
        refine Walk.val (G := Is (.int .i64 ((S.low / 16777216 : Nat) : Int))) (stays_is _ _) rfl rfl (fun a w hm hd => ⟨wanted_plain rfl, st_quo24 rfl (hd.at_ 5 rfl rfl rfl rfl) HB.out.low⟩) ?_
        refine Walk.val (G := Is (.int .u8 ((S.low / 16777216 : Nat) : Int))) (stays_is _ _) rfl rfl (fun a w hm hd => ⟨wanted_plain rfl, st_conv38 rfl (hd.at_ 6 rfl rfl rfl rfl) (by have := HB.out.low; omega)⟩) ?_
        refine Walk.makeC (G := fun u W => Rd W u (bytesV [UInt8.ofNat (S.low / 16777216)])) (fun _ _ _ _ _ h hg => Rd.grown0 h hg) rfl rfl (fun a w hm _ hd => ⟨wanted_plain rfl, _, _, ex_build1C rfl (hd.at_ 7 rfl rfl rfl rfl) rfl, grown_alloc (grown_refl _ _) _, by
          have h1 := Rd.one w (Value.int .u8 ((S.low / 16777216 : Nat) : Int)) 5
          rw [show bytesV [UInt8.ofNat (S.low / 16777216)] = [Value.int .u8 ((S.low / 16777216 : Nat) : Int)] by simp [bytesV, byteV]; have := HB.out.low; omega]
          exact h1⟩) ?_
        intro a9 V9 hm9 hall
        have ho38 : V9.ownsRow wr.heap.size 5 1 (a9.eval (.tmp 38)) S.out.length (bytesV S.out) := hall 3 _ _ rfl rfl
        have hr43 : Rd V9 (a9.eval (.tmp 43)) (bytesV [UInt8.ofNat (S.low / 16777216)]) := hall 8 _ _ rfl rfl
        have hfr := hm9.frame
        simp only [List.take_succ_cons, List.take_zero, List.filterMap_cons, List.filterMap_nil, List.foldl_cons, List.foldl_nil] at hfr
        have hg9 := GrownX.none2 hm9.grow
        generalize he35 : a9.eval (.tmp 35) = v35 at hfr
        generalize he36 : a9.eval (.tmp 36) = v36 at hfr
        generalize he37 : a9.eval (.tmp 37) = v37 at hfr
        generalize he38 : a9.eval (.tmp 38) = v38 at hfr ho38
        generalize he39 : a9.eval (.tmp 39) = v39 at hfr
        generalize he40 : a9.eval (.tmp 40) = v40 at hfr
        generalize he41 : a9.eval (.tmp 41) = v41 at hfr
        generalize he42 : a9.eval (.tmp 42) = v42 at hfr
        generalize he43 : a9.eval (.tmp 43) = v43 at hfr hr43
        clear hall hm9
        refine wpList_append_bytes _ rfl (.tmp 38) (.tmp 43) rfl wr.heap.size v38 S.out.length (bytesV S.out) he38 ho38 v43 [UInt8.ofNat (S.low / 16777216)] he43 hr43 (by have := HB.out.len HLT.out; simp; omega) hg9.size ?_
        intro v' w4 ho4 hg4 hat4
        have hgn : wr.grownBy w4 none := grown_new hg9 hg4 (fun b hb => (ho38.lt b hb).1)
        have HB4 := Lib.hid (HB.out.grown0 hgn)
        rw [← bytesV_app] at ho4
        obtain ⟨A4, c4, rfl⟩ := own_form ho4
        have hnn : ∀ k, (Value.slice A4 (S.out.length + 1) c4).ownBlock = some k → k ≠ gx ∧ k ≠ gx + 1 := fun k hk => by
          have h1 := (ho4.lt k hk).1
          have h2 := HB.out.row.lt
          have h3 := HB.out.res.lt
          omega
        have HNN := Lib.hid hnn
        have HSRC := Lib.hid (show ∀ k, (Value.slice A4 (S.out.length + 1) c4).ownBlock = some k → w.heap.size ≤ k from fun k hk => Nat.le_trans HB.out.grow.size (ho4.lt k hk).1)
        have HRD4 := Lib.hid (show Rd w4 (.slice A4 (S.out.length + 1) c4) (bytesV (S.out ++ [UInt8.ofNat (S.low / 16777216)])) from Rd.of_own ho4)
        have f0 := HB4.out.row.frozen 0
        have f1 := HB4.out.row.frozen 1
        have f2 := HB4.out.row.frozen 2
        have k0 := HB4.out.row.cell (j := 0) rfl
        have k1 := HB4.out.row.cell (j := 1) rfl
        have k2 := HB4.out.row.cell (j := 2) rfl
        have hrem : (S.low : Int).tmod 16777216 = ((S.low % 16777216 : Nat) : Int) := by rw [Int.tmod_eq_emod_of_nonneg (by omega)]; simp
        have hmul : ((S.low % 16777216 : Nat) : Int) * 256 = ((S.low % 16777216 * 256 : Nat) : Int) := by omega
        have hmulw : (S.width : Int) * 256 = ((S.width * 256 : Nat) : Int) := by omega
        have HWID := Lib.hid (show wid ⟨S.out ++ [UInt8.ofNat (S.low / 16777216)], S.low % 16777216 * 256, S.width * 256⟩ = tgt by
          rw [← HB.out.wid_]
          have h1 := HB.out.least
          have h2 : wid S = ⟨S.out ++ [UInt8.ofNat (S.low / 16777216)], S.low % 16777216 * 256, S.width * 256⟩ := by rw [wid, if_pos HLT.out]; rfl
          rw [h2, wid, if_neg (by show ¬ S.width * 256 < 16777216; omega)])
        have HLL := Lib.hid (show S.low % 16777216 * 256 < 4294967296 ∧ 65536 ≤ S.width * 256 ∧ S.width * 256 < 4294967296 ∧ S.width < S.width * 256 ∧ 16777216 ≤ S.width * 256 from by have := HB.out.least; have := HLT.out; omega)
        generalize S.low % 16777216 * 256 = L' at *
        generalize S.width * 256 = M' at *
        clear ho38 hr43 ho4 hg4 hat4 hg9 hgn he35 he36 he37 he38 he39 he40 he41 he42 he43 e0 e1 e2
        have x3 : (a9.put (some 44) (.slice A4 (S.out.length + 1) c4)).eval (.tmp 3) = .pointer (some ⟨gx, 0, none⟩) := by rw [hfr]; kernel_rfl
        have x45 : ((a9.put (some 44) (.slice A4 (S.out.length + 1) c4)).put (some 45) (.pointer (some ⟨gx, 0, none⟩))).eval (.tmp 45) = .pointer (some ⟨gx, 0, none⟩) := by rw [hfr]; kernel_rfl
        have x44 : ((a9.put (some 44) (.slice A4 (S.out.length + 1) c4)).put (some 45) (.pointer (some ⟨gx, 0, none⟩))).eval (.tmp 44) = .slice A4 (S.out.length + 1) c4 := by rw [hfr]; kernel_rfl
        refine wpList_runs rfl (v := .pointer (some ⟨gx, 0, none⟩)) (ex_fieldX0 rfl x3) ?_
        refine wpList_storeB rfl rfl (.tmp 45) (.tmp 44) rfl gx 0 _ _ A4 _ c4 x45 x44 HB4.out.row (by simp) ?_
        clear x3 x44 x45
        obtain ⟨W5, hW5⟩ : ∃ W, w4.setCell ⟨gx, 0, none⟩ (.slice A4 (S.out.length + 1) c4) = W := ⟨_, rfl⟩
        have R5 := HB4.out.row.set 0 (.slice A4 (S.out.length + 1) c4)
        have G5 := grown_set w4 gx 0 (.slice A4 (S.out.length + 1) c4)
        rw [hW5] at R5 G5
        rw [hW5]
        simp only [List.set_cons_zero] at R5
        have Z5 := HB4.out.res.grown G5 (by simp)
        have HG5 := Lib.hid (grown_own HB4.out.grow G5 HB4.out.new)
        have RD5 := HRD4.out.keepE (fun _ b hb hlt => G5.block b hlt (fun e => by cases e; exact (hnn gx hb).1 rfl))
        have q1 := R5.frozen 1
        have q2 := R5.frozen 2
        have q3 := R5.cell (j := 1) rfl
        have q4 := R5.cell (j := 2) rfl
        have R5 := Lib.hid R5
        have Z5 := Lib.hid Z5
        have RD5 := Lib.hid RD5
        clear f0 f1 f2 k0 k1 k2 hnn hW5 G5
        unfold wpList
        rw [hfr]
        clear hfr
        go_simp
        go_wp2
        have hz1 : (S.low : Int) % 16777216 * 256 = (L' : Int) := by omega
        rw [hz1]
        have R6 := R5.out.set 1 (.int .i64 (L' : Int))
        have G6 := grown_set W5 gx 1 (.int .i64 (L' : Int))
        have Z6 := Z5.out.grown G6 (by simp)
        have RD6 := RD5.out.keepE (fun _ b hb hlt => G6.block b hlt (fun e => by cases e; exact (HNN.out gx hb).1 rfl))
        have HG6 := grown_own HG5.out G6 HB4.out.new
        clear q1 q2 q3 q4
        generalize W5.setCell ⟨gx, 1, none⟩ (.int .i64 (L' : Int)) = W6 at *
        have R7 := R6.set 2 (.int .i64 (M' : Int))
        have G7 := grown_set W6 gx 2 (.int .i64 (M' : Int))
        have Z7 := Z6.grown G7 (by simp)
        have RD7 := RD6.keepE (fun _ b hb hlt => G7.block b hlt (fun e => by cases e; exact (HNN.out gx hb).1 rfl))
        have HG7 := grown_own HG6 G7 HB4.out.new
        generalize W6.setCell ⟨gx, 2, none⟩ (.int .i64 (M' : Int)) = W7 at *
        have B7 : Bx (.slice A s.out.length c) s.out w W7 gx (.slice A4 (S.out.length + 1) c4) ⟨S.out ++ [UInt8.ofNat (S.low / 16777216)], L', M'⟩ (tgt) := ⟨fun _ k hk => .inr (HSRC.out k hk), R7, RD7, fun _ => HNN.out, Z7, HG7, HB4.out.new, HWID.out, HLL.out.1, HLL.out.2.1, HLL.out.2.2.1, fun h => by have h1 := HLL.out; have h2 := HB4.out.least; have h3 : M' < 16777216 := h; omega⟩
        refine ⟨⟨_, _, B7⟩, ?_⟩
        rw [B7.box, HM.out]
        have := HLL.out
        show 1000000000000 - M' < _
        omega
      · have hd : decide ((S.width : Int) < 16777216) = false := by simp; omega
        have hd' : decide (S.width < 16777216) = false := by simp; omega
        have HS := Lib.hid (show S = tgt by rw [← HB.out.wid_, wid, if_neg hlt])
        have HZ := Lib.hid HB.out.res
        have HRW := Lib.hid HB.out.row
        go_wp2_with (first
          | refine wpList_load_row _ rfl _ _ rfl gx 30 _ _ rfl HRW.out Try.underlying30 rfl (by kernel_rfl) ?_
          | (refine wpList_store_row _ rfl rfl _ _ 30 rfl (gx + 1) 30 _ [.slice A' S.out.length c', .int .i64 (S.low : Int), .int .i64 (S.width : Int)] rfl rfl HZ.out rfl (by simp [Value.oneCell']) (by kernel_rfl) ?_
             intro w5 hr5 hg5))
        refine bodyPost_ret (v := cV (.slice A' S.out.length c') S) (results_row Try.results25 (gx + 1) 30 _ _ rfl hr5 Try.underlying30 rfl (by kernel_rfl)) rfl ?_
        rw [← HS.out]
        exact ⟨_, rfl, HB.out.rd.keepE (fun he b hb hlt => hg5.block b hlt (fun e => by cases e; exact (HB.out.ne (bytesV_ne he) _ hb).2 rfl)), grown_own HB.out.grow hg5 (by have := HB.out.new; omega), HB.out.src⟩
  · rw [if_pos (show 4294967296 ≤ L by omega)]
    obtain ⟨L2, hL2⟩ : ∃ t, L % 4294967296 = t := ⟨_, rfl⟩
    rw [hL2]
    have hsub2 : (L : Int) - 4294967296 = (L2 : Int) := by omega
    have hL2' : L2 < 4294967296 := by omega
    obtain ⟨tgt, hT⟩ : ∃ t, wid ⟨incr s.out, L2, M⟩ = t := ⟨_, rfl⟩
    rw [hT]
    have HT := Lib.hid hT
    have f3 := R2.frozen 1
    have hd1 : decide (4294967296 ≤ (L : Int)) = true := by simp; omega
    have hd1' : decide (4294967296 ≤ L) = true := by simp; omega
    obtain ⟨W3, hW3⟩ : ∃ W, W2.setCell ⟨gx, 1, none⟩ (.int .i64 (L2 : Int)) = W := ⟨_, rfl⟩
    have R3 := R2.set 1 (.int .i64 (L2 : Int))
    have G3 := grown_set W2 gx 1 (.int .i64 (L2 : Int))
    rw [hW3] at R3 G3
    have R3 : Row W3 gx _ [.slice A s.out.length c, .int .i64 (L2 : Int), .int .i64 (M : Int)] := R3
    have RD3 := keep G3 RD2
    have HG3 := Lib.hid (grown_own HG2 G3 (by omega))
    have Z3 := Lib.hid (Z2.grown G3 (by simp))
    have c3 := R3.cell (j := 0) rfl
    have HC := Lib.hid (carried_any _ s.out W3 RD3 (by omega))
    have HR3 := Lib.hid R3
    have HMM := Lib.hid (show 65536 ≤ M ∧ M < 4294967296 ∧ w.heap.size ≤ gx from by omega)
    clear R0 Z0 hG0 R1 G1 R2 G2 RD2 HG2 Z2 keep hr hs hb hl h1 h3 b1 b2 hnk hL hM hT hc R3 G3 RD3 hL2
    unfold cV
    go_enter Try.func25, Try.ntmps25
    go_wp2_with fail
    refine (HC.out).mono ?_
    rintro e w4 ⟨v', rfl, hrd4, hg4, hnew4⟩
    obtain ⟨A2, c2, rfl⟩ := hrd4.form
    rw [bytesV_len] at *
    have R4 := HR3.out.grown0 hg4
    have f4 := R4.frozen 0
    have c4 := R4.cell (j := 0) rfl
    have R5 := R4.set 0 (.slice A2 (incr s.out).length c2)
    have G5 := grown_set w4 gx 0 (.slice A2 (incr s.out).length c2)
    have hnk2 : ∀ k, (Value.slice A2 (incr s.out).length c2).ownBlock = some k → k ≠ gx ∧ k ≠ gx + 1 := fun k hk => by
      have h1 := hnew4 k hk
      have h2 := HR3.out.lt
      have h3 := Z3.out.lt
      omega
    obtain ⟨W5, hW5⟩ : ∃ W, w4.setCell ⟨gx, 0, none⟩ (.slice A2 (incr s.out).length c2) = W := ⟨_, rfl⟩
    rw [hW5] at R5 G5
    have R5 : Row W5 gx _ [.slice A2 (incr s.out).length c2, .int .i64 (L2 : Int), .int .i64 (M : Int)] := R5
    have HX := Lib.hid (show Bx (.slice A s.out.length c) s.out w W5 gx (.slice A2 (incr s.out).length c2) ⟨incr s.out, L2, M⟩ tgt from ⟨fun _ k hk => .inr (Nat.le_trans HG3.out.size (hnew4 k hk).1), R5, hrd4.keepE (fun he b hb hlt => G5.block b hlt (fun e => by cases e; exact (hnk2 gx hb).1 rfl)), fun _ => hnk2, (Z3.out.grown0 hg4).grown G5 (by simp), grown_own (HG3.out.trans hg4) G5 HMM.out.2.2, HMM.out.2.2, HT.out, hL2', HMM.out.1, HMM.out.2.1, fun _ => by show (incr s.out).length ≤ _; rw [incr_len]; have := HL.out; omega⟩)
    clear R4 R5 G5 hnk2 hnew4 hrd4 hg4 c3
    go_wp2
    go_loopw [34] (fun _ W => ∃ (v : Value) (S : Cst), Bx (.slice A s.out.length c) s.out w W gx v S (tgt)) (fun _ W => boxW gx W)
    case atStart => exact ⟨_, _, HX.out⟩
    case round =>
      obtain ⟨v, S, hbx⟩ := hrel
      obtain ⟨A', c', rfl⟩ := hbx.rd.form
      rw [bytesV_len] at *
      have HB := Lib.hid hbx
      have e0 := hbx.row.cell (j := 0) rfl
      have e1 := hbx.row.cell (j := 1) rfl
      have e2 := hbx.row.cell (j := 2) rfl
      have hlow := hbx.low
      have hw2 := hbx.most
      have HM := Lib.hid hbx.box
      have HH := Lib.hid (show wr.heap.size ≤ wr.heap.size from Nat.le_refl _)
      clear hbx HX
      by_cases hlt : S.width < 16777216
      · have hd : decide ((S.width : Int) < 16777216) = true := by simp; omega
        have hd' : decide (S.width < 16777216) = true := by simp; omega
        have HLT := Lib.hid hlt
        go_wp2
        refine wp_region_walk3 9 [] dis_nil (by kernel_rfl) (by kernel_rfl) (by kernel_rfl) ?_
        simp only [List.take_succ_cons, List.take_zero, List.drop_succ_cons, List.drop_zero]
        refine Walk.makeC (G := fun u W => ∃ g, u = .slice (some ⟨g, 0, none⟩) 0 0 ∧ W.ownsRow wr.heap.size 5 1 u 0 []) (fun _ _ _ _ _ ⟨g, h1, h2⟩ hg => ⟨g, h1, own_keepN h2 hg⟩) rfl rfl (fun a w hm _ hd => ⟨wanted_plain rfl, _, _, ex_build0C rfl, grown_alloc (grown_refl _ _) _, _, rfl, own_empty w _ hm.grow.size⟩) ?_
        refine Walk.val (G := Is (.pointer (some ⟨gx, 0, none⟩))) (stays_is _ _) rfl rfl (fun a w hm hd => ⟨wanted_plain rfl, st_fieldX0 rfl (by rw [hm.outer 3 (by kernel_rfl)]; rfl)⟩) ?_
        refine Walk.val (G := Is (.slice A' S.out.length c')) (stays_is _ _) rfl rfl (fun a w hm hd => ⟨wanted_plain rfl, st_cell rfl (fun _ => by kernel_rfl) (hd.at_ 1 rfl rfl rfl rfl) ((HB.out.row.grown0 (GrownX.none2 hm.grow)).cell (j := 0) rfl)⟩) ?_
        refine Walk.makeC (G := fun u W => W.ownsRow wr.heap.size 5 1 u S.out.length (bytesV S.out)) (fun _ _ _ _ _ h hg => own_keepN h hg) rfl rfl (fun a w hm _ hd => ⟨wanted_plain rfl, by
          obtain ⟨g0, h0, ho⟩ := hd.at_ 0 rfl rfl rfl rfl
          exact ex_appendE rfl wr.heap.size g0 h0 (by rw [← h0]; exact ho) hm.grow.size _ S.out (show a.eval (.tmp 37) = _ from hd.at_ 2 rfl rfl rfl rfl) (HB.out.rd.grown0 (GrownX.none2 hm.grow)) (by have := HB.out.len HLT.out; omega)⟩) ?_
        refine Walk.val (G := Is (.pointer (some ⟨gx, 1, none⟩))) (stays_is _ _) rfl rfl (fun a w hm hd => ⟨wanted_plain rfl, st_fieldX1 rfl (by rw [hm.outer 3 (by kernel_rfl)]; rfl)⟩) ?_
        refine Walk.val (G := Is (.int .i64 (S.low : Int))) (stays_is _ _) rfl rfl (fun a w hm hd => ⟨wanted_plain rfl, st_cell rfl (fun _ => by kernel_rfl) (hd.at_ 4 rfl rfl rfl rfl) ((HB.out.row.grown0 (GrownX.none2 hm.grow)).cell (j := 1) rfl)⟩) ?_
        refine Walk.val (G := Is (.int .i64 ((S.low / 16777216 : Nat) : Int))) (stays_is _ _) rfl rfl (fun a w hm hd => ⟨wanted_plain rfl, st_quo24 rfl (hd.at_ 5 rfl rfl rfl rfl) HB.out.low⟩) ?_
        refine Walk.val (G := Is (.int .u8 ((S.low / 16777216 : Nat) : Int))) (stays_is _ _) rfl rfl (fun a w hm hd => ⟨wanted_plain rfl, st_conv38 rfl (hd.at_ 6 rfl rfl rfl rfl) (by have := HB.out.low; omega)⟩) ?_
        refine Walk.makeC (G := fun u W => Rd W u (bytesV [UInt8.ofNat (S.low / 16777216)])) (fun _ _ _ _ _ h hg => Rd.grown0 h hg) rfl rfl (fun a w hm _ hd => ⟨wanted_plain rfl, _, _, ex_build1C rfl (hd.at_ 7 rfl rfl rfl rfl) rfl, grown_alloc (grown_refl _ _) _, by
          have h1 := Rd.one w (Value.int .u8 ((S.low / 16777216 : Nat) : Int)) 5
          rw [show bytesV [UInt8.ofNat (S.low / 16777216)] = [Value.int .u8 ((S.low / 16777216 : Nat) : Int)] by simp [bytesV, byteV]; have := HB.out.low; omega]
          exact h1⟩) ?_
        intro a9 V9 hm9 hall
        have ho38 : V9.ownsRow wr.heap.size 5 1 (a9.eval (.tmp 38)) S.out.length (bytesV S.out) := hall 3 _ _ rfl rfl
        have hr43 : Rd V9 (a9.eval (.tmp 43)) (bytesV [UInt8.ofNat (S.low / 16777216)]) := hall 8 _ _ rfl rfl
        have hfr := hm9.frame
        simp only [List.take_succ_cons, List.take_zero, List.filterMap_cons, List.filterMap_nil, List.foldl_cons, List.foldl_nil] at hfr
        have hg9 := GrownX.none2 hm9.grow
        generalize he35 : a9.eval (.tmp 35) = v35 at hfr
        generalize he36 : a9.eval (.tmp 36) = v36 at hfr
        generalize he37 : a9.eval (.tmp 37) = v37 at hfr
        generalize he38 : a9.eval (.tmp 38) = v38 at hfr ho38
        generalize he39 : a9.eval (.tmp 39) = v39 at hfr
        generalize he40 : a9.eval (.tmp 40) = v40 at hfr
        generalize he41 : a9.eval (.tmp 41) = v41 at hfr
        generalize he42 : a9.eval (.tmp 42) = v42 at hfr
        generalize he43 : a9.eval (.tmp 43) = v43 at hfr hr43
        clear hall hm9
        refine wpList_append_bytes _ rfl (.tmp 38) (.tmp 43) rfl wr.heap.size v38 S.out.length (bytesV S.out) he38 ho38 v43 [UInt8.ofNat (S.low / 16777216)] he43 hr43 (by have := HB.out.len HLT.out; simp; omega) hg9.size ?_
        intro v' w4 ho4 hg4 hat4
        have hgn : wr.grownBy w4 none := grown_new hg9 hg4 (fun b hb => (ho38.lt b hb).1)
        have HB4 := Lib.hid (HB.out.grown0 hgn)
        rw [← bytesV_app] at ho4
        obtain ⟨A4, c4, rfl⟩ := own_form ho4
        have hnn : ∀ k, (Value.slice A4 (S.out.length + 1) c4).ownBlock = some k → k ≠ gx ∧ k ≠ gx + 1 := fun k hk => by
          have h1 := (ho4.lt k hk).1
          have h2 := HB.out.row.lt
          have h3 := HB.out.res.lt
          omega
        have HNN := Lib.hid hnn
        have HSRC := Lib.hid (show ∀ k, (Value.slice A4 (S.out.length + 1) c4).ownBlock = some k → w.heap.size ≤ k from fun k hk => Nat.le_trans HB.out.grow.size (ho4.lt k hk).1)
        have HRD4 := Lib.hid (show Rd w4 (.slice A4 (S.out.length + 1) c4) (bytesV (S.out ++ [UInt8.ofNat (S.low / 16777216)])) from Rd.of_own ho4)
        have f0 := HB4.out.row.frozen 0
        have f1 := HB4.out.row.frozen 1
        have f2 := HB4.out.row.frozen 2
        have k0 := HB4.out.row.cell (j := 0) rfl
        have k1 := HB4.out.row.cell (j := 1) rfl
        have k2 := HB4.out.row.cell (j := 2) rfl
        have hrem : (S.low : Int).tmod 16777216 = ((S.low % 16777216 : Nat) : Int) := by rw [Int.tmod_eq_emod_of_nonneg (by omega)]; simp
        have hmul : ((S.low % 16777216 : Nat) : Int) * 256 = ((S.low % 16777216 * 256 : Nat) : Int) := by omega
        have hmulw : (S.width : Int) * 256 = ((S.width * 256 : Nat) : Int) := by omega
        have HWID := Lib.hid (show wid ⟨S.out ++ [UInt8.ofNat (S.low / 16777216)], S.low % 16777216 * 256, S.width * 256⟩ = tgt by
          rw [← HB.out.wid_]
          have h1 := HB.out.least
          have h2 : wid S = ⟨S.out ++ [UInt8.ofNat (S.low / 16777216)], S.low % 16777216 * 256, S.width * 256⟩ := by rw [wid, if_pos HLT.out]; rfl
          rw [h2, wid, if_neg (by show ¬ S.width * 256 < 16777216; omega)])
        have HLL := Lib.hid (show S.low % 16777216 * 256 < 4294967296 ∧ 65536 ≤ S.width * 256 ∧ S.width * 256 < 4294967296 ∧ S.width < S.width * 256 ∧ 16777216 ≤ S.width * 256 from by have := HB.out.least; have := HLT.out; omega)
        generalize S.low % 16777216 * 256 = L' at *
        generalize S.width * 256 = M' at *
        clear ho38 hr43 ho4 hg4 hat4 hg9 hgn he35 he36 he37 he38 he39 he40 he41 he42 he43 e0 e1 e2
        have x3 : (a9.put (some 44) (.slice A4 (S.out.length + 1) c4)).eval (.tmp 3) = .pointer (some ⟨gx, 0, none⟩) := by rw [hfr]; kernel_rfl
        have x45 : ((a9.put (some 44) (.slice A4 (S.out.length + 1) c4)).put (some 45) (.pointer (some ⟨gx, 0, none⟩))).eval (.tmp 45) = .pointer (some ⟨gx, 0, none⟩) := by rw [hfr]; kernel_rfl
        have x44 : ((a9.put (some 44) (.slice A4 (S.out.length + 1) c4)).put (some 45) (.pointer (some ⟨gx, 0, none⟩))).eval (.tmp 44) = .slice A4 (S.out.length + 1) c4 := by rw [hfr]; kernel_rfl
        refine wpList_runs rfl (v := .pointer (some ⟨gx, 0, none⟩)) (ex_fieldX0 rfl x3) ?_
        refine wpList_storeB rfl rfl (.tmp 45) (.tmp 44) rfl gx 0 _ _ A4 _ c4 x45 x44 HB4.out.row (by simp) ?_
        clear x3 x44 x45
        obtain ⟨W5, hW5⟩ : ∃ W, w4.setCell ⟨gx, 0, none⟩ (.slice A4 (S.out.length + 1) c4) = W := ⟨_, rfl⟩
        have R5 := HB4.out.row.set 0 (.slice A4 (S.out.length + 1) c4)
        have G5 := grown_set w4 gx 0 (.slice A4 (S.out.length + 1) c4)
        rw [hW5] at R5 G5
        rw [hW5]
        simp only [List.set_cons_zero] at R5
        have Z5 := HB4.out.res.grown G5 (by simp)
        have HG5 := Lib.hid (grown_own HB4.out.grow G5 HB4.out.new)
        have RD5 := HRD4.out.keepE (fun _ b hb hlt => G5.block b hlt (fun e => by cases e; exact (hnn gx hb).1 rfl))
        have q1 := R5.frozen 1
        have q2 := R5.frozen 2
        have q3 := R5.cell (j := 1) rfl
        have q4 := R5.cell (j := 2) rfl
        have R5 := Lib.hid R5
        have Z5 := Lib.hid Z5
        have RD5 := Lib.hid RD5
        clear f0 f1 f2 k0 k1 k2 hnn hW5 G5
        unfold wpList
        rw [hfr]
        clear hfr
        go_simp
        go_wp2
        have hz1 : (S.low : Int) % 16777216 * 256 = (L' : Int) := by omega
        rw [hz1]
        have R6 := R5.out.set 1 (.int .i64 (L' : Int))
        have G6 := grown_set W5 gx 1 (.int .i64 (L' : Int))
        have Z6 := Z5.out.grown G6 (by simp)
        have RD6 := RD5.out.keepE (fun _ b hb hlt => G6.block b hlt (fun e => by cases e; exact (HNN.out gx hb).1 rfl))
        have HG6 := grown_own HG5.out G6 HB4.out.new
        clear q1 q2 q3 q4
        generalize W5.setCell ⟨gx, 1, none⟩ (.int .i64 (L' : Int)) = W6 at *
        have R7 := R6.set 2 (.int .i64 (M' : Int))
        have G7 := grown_set W6 gx 2 (.int .i64 (M' : Int))
        have Z7 := Z6.grown G7 (by simp)
        have RD7 := RD6.keepE (fun _ b hb hlt => G7.block b hlt (fun e => by cases e; exact (HNN.out gx hb).1 rfl))
        have HG7 := grown_own HG6 G7 HB4.out.new
        generalize W6.setCell ⟨gx, 2, none⟩ (.int .i64 (M' : Int)) = W7 at *
        have B7 : Bx (.slice A s.out.length c) s.out w W7 gx (.slice A4 (S.out.length + 1) c4) ⟨S.out ++ [UInt8.ofNat (S.low / 16777216)], L', M'⟩ (tgt) := ⟨fun _ k hk => .inr (HSRC.out k hk), R7, RD7, fun _ => HNN.out, Z7, HG7, HB4.out.new, HWID.out, HLL.out.1, HLL.out.2.1, HLL.out.2.2.1, fun h => by have h1 := HLL.out; have h2 := HB4.out.least; have h3 : M' < 16777216 := h; omega⟩
        refine ⟨⟨_, _, B7⟩, ?_⟩
        rw [B7.box, HM.out]
        have := HLL.out
        show 1000000000000 - M' < _
        omega
      · have hd : decide ((S.width : Int) < 16777216) = false := by simp; omega
        have hd' : decide (S.width < 16777216) = false := by simp; omega
        have HS := Lib.hid (show S = tgt by rw [← HB.out.wid_, wid, if_neg hlt])
        have HZ := Lib.hid HB.out.res
        have HRW := Lib.hid HB.out.row
        go_wp2_with (first
          | refine wpList_load_row _ rfl _ _ rfl gx 30 _ _ rfl HRW.out Try.underlying30 rfl (by kernel_rfl) ?_
          | (refine wpList_store_row _ rfl rfl _ _ 30 rfl (gx + 1) 30 _ [.slice A' S.out.length c', .int .i64 (S.low : Int), .int .i64 (S.width : Int)] rfl rfl HZ.out rfl (by simp [Value.oneCell']) (by kernel_rfl) ?_
             intro w5 hr5 hg5))
        refine bodyPost_ret (v := cV (.slice A' S.out.length c') S) (results_row Try.results25 (gx + 1) 30 _ _ rfl hr5 Try.underlying30 rfl (by kernel_rfl)) rfl ?_
        rw [← HS.out]
        exact ⟨_, rfl, HB.out.rd.keepE (fun he b hb hlt => hg5.block b hlt (fun e => by cases e; exact (HB.out.ne (bytesV_ne he) _ hb).2 rfl)), grown_own HB.out.grow hg5 (by have := HB.out.new; omega), HB.out.src⟩
theorem rput (v : Value) (s : Cst) (bound : Nat) (b : Bool) (w : World) (hr : Rd w v (bytesV s.out)) (hs : Okc s) (hb : Okb s bound) (hl : s.out.length ≤ 100000) :
    Calls Try.prog 25 #[cV v s, .int .i64 (bound : Int), .int .i64 (b.toNat : Int)] w (CVal v s.out (putS s bound b) w) := by
  cases b with
  | false => exact rput0 v s bound w hr hs hb hl
  | true => exact rput1 v s bound w hr hs hb hl
end Go.Proofs.Ytohndlfekecfoaa
