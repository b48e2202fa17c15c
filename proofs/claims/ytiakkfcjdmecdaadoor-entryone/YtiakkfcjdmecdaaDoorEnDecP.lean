/-
  entry.Decode over this program.
-/
import Derived.Test.YtiakkfcjdmecdaaDoorEnDecL
import Derived.Test.YtiakkfcjdmecdaaDoorEnTotalP
import Derived.Test.YtiakkfcjdmecdaaDoorEnSlice
import Derived.Laws.ResultCell
namespace Go.Proofs.YtiakkfcjdmecdaaDoor
set_option maxRecDepth 1000000
open Go.RowKit

set_option maxHeartbeats 1000000 in
theorem dnum_at (H g : Nat) (l : List UInt8) (x : Int) (W : World) (hb : Row W H 75 [.pointer (some ⟨g, 0, none⟩)]) (h : O.Rdr W g l x) (hl : l.length ≤ 140737488355328) :
    Calls Tryd.prog 78 #[.pointer (some ⟨H, 0, none⟩)] W (O.RdrOut W g (.int .i64 (O.numOf l x 1099511627775).1) (O.numOf l x 1099511627775).2.1 (O.numOf l x 1099511627775).2.2) := by
  have hc := hb.cell (j := 0) rfl
  have HN := Lib.hid (O.rnum_at g l x 1099511627775 W h hl)
  generalize O.numOf l x 1099511627775 = p at *
  clear hb h hl
  go_enter Tryd.func78, Tryd.ntmps78
  go_wp2_with fail
  refine HN.out.mono ?_
  rintro e w1 ⟨rfl, hr, hg⟩
  have HR := Lib.hid hr
  have HG := Lib.hid hg
  clear hr hg hc
  go_wp2
  go_ret
  exact ⟨rfl, HR.out, HG.out⟩
set_option maxHeartbeats 1000000 in
theorem dtext_at (H g : Nat) (l : List UInt8) (x : Int) (W : World) (hb : Row W H 75 [.pointer (some ⟨g, 0, none⟩)]) (h : O.Rdr W g l x) (hl : l.length ≤ 140737488355328) :
    Calls Tryd.prog 79 #[.pointer (some ⟨H, 0, none⟩)] W (O.RdrOut W g (.string (bts (textOf l x 256).1)) (textOf l x 256).2.1 (textOf l x 256).2.2) := by
  have hc := hb.cell (j := 0) rfl
  have HN := Lib.hid (O.rbytes_at g l x 256 W h hl)
  generalize textOf l x 256 = p at *
  clear hb h hl
  go_enter Tryd.func79, Tryd.ntmps79
  go_wp2_with fail
  refine HN.out.mono ?_
  rintro e w1 ⟨v1, rfl, hv, hr, hg⟩
  have HV := Lib.hid hv
  have HR := Lib.hid hr
  have HG := Lib.hid hg
  obtain ⟨A1, c1, rfl⟩ := hv.form
  clear hr hg hc hv
  go_wp2_with (refine wpList_runsE rfl (st_str rfl HV.out) ?_; intro v9 hv9; obtain rfl : v9 = _ := hv9)
  go_wp2
  go_ret
  exact ⟨rfl, HR.out, HG.out⟩
section
variable {ops : Array Oper} {rest : List Oper} {o : Oper} {a : Act} {w : World} {Q : Exit → Act → World → Prop}
theorem wpList_store3 (hgd : o.guard = none) (hdst : o.dst = none) (x y : Operand) (ho : o.op = .store 3 x y) (g i : Nat) (t : TypeId) (cs : List Value) (n : Int)
    (hv : a.eval x = .pointer (some ⟨g, i, none⟩)) (hy : a.eval y = .int .i64 n) (hr : Row w g t cs) (hi : i < cs.length) (h : ∀ w', Row w' g t (cs.set i (.int .i64 n)) → w.grownBy w' (some g) → wpList Tryd.prog ops Q rest a w') : wpList Tryd.prog ops Q (o :: rest) a w := by
  have hf := hr.frozen i
  have hc := hr.cell (j := i) (u := cs[i]) (List.getElem?_eq_getElem hi)
  refine wpList_plain hgd fun _ hK => ?_
  have hrun : (execOp a.eval o).run Tryd.prog w = .ok .skip (w.setCell ⟨g, i, none⟩ (.int .i64 n)) := by
    simp only [execOp, ho, hv, hy]
    simp [go_sem, hc, hf]
  unfold Oper.wp
  rw [hrun, Oper.upon_skip]
  refine hK _ _ ?_
  rw [hdst]
  exact h _ (hr.set i _) (grown_set _ _ _ _)
theorem wpList_store9 (hgd : o.guard = none) (hdst : o.dst = none) (x y : Operand) (ho : o.op = .store 9 x y) (g i : Nat) (t : TypeId) (cs : List Value) (s : ByteArray)
    (hv : a.eval x = .pointer (some ⟨g, i, none⟩)) (hy : a.eval y = .string s) (hr : Row w g t cs) (hi : i < cs.length) (h : ∀ w', Row w' g t (cs.set i (.string s)) → w.grownBy w' (some g) → wpList Tryd.prog ops Q rest a w') : wpList Tryd.prog ops Q (o :: rest) a w := by
  have hf := hr.frozen i
  have hc := hr.cell (j := i) (u := cs[i]) (List.getElem?_eq_getElem hi)
  refine wpList_plain hgd fun _ hK => ?_
  have hrun : (execOp a.eval o).run Tryd.prog w = .ok .skip (w.setCell ⟨g, i, none⟩ (.string s)) := by
    simp only [execOp, ho, hv, hy]
    simp [go_sem, hc, hf]
  unfold Oper.wp
  rw [hrun, Oper.upon_skip]
  refine hK _ _ ?_
  rw [hdst]
  exact h _ (hr.set i _) (grown_set _ _ _ _)
end
/-- What lies there while an entry is read: the box of the reader's pointer, the answer's cell, the entry, the reader. -/
structure DOne (w W : World) (H g : Nat) (l : List UInt8) (x : Int) (cs : List Value) : Prop where
  size : w.heap.size = H
  low : g < H
  box : Row W H 75 [.pointer (some ⟨g, 0, none⟩)]
  res : Row W (H + 1) 38 (enC default)
  ent : Row W (H + 2) 38 cs
  rdr : O.Rdr W g l x
  grown : w.grownBy W (some g)
theorem DOne.call {w W W' : World} {H g : Nat} {l l' : List UInt8} {x x' : Int} {cs : List Value} (h : DOne w W H g l x cs) (hr : O.Rdr W' g l' x') (hg : W.grownBy W' (some g)) : DOne w W' H g l' x' cs :=
  have hl := h.low
  ⟨h.size, h.low, h.box.grown hg (by intro e; injection e with e; omega), h.res.grown hg (by intro e; injection e with e; omega), h.ent.grown hg (by intro e; injection e with e; omega), hr, h.grown.trans hg⟩
theorem DOne.store {w W W' : World} {H g : Nat} {l : List UInt8} {x : Int} {cs cs' : List Value} (h : DOne w W H g l x cs) (hr : Row W' (H + 2) 38 cs') (hg : W.grownBy W' (some (H + 2))) : DOne w W' H g l x cs' :=
  have hl := h.low
  have hs := h.size
  ⟨h.size, h.low, h.box.grown hg (by intro e; injection e with e; omega), h.res.grown hg (by intro e; injection e with e; omega), hr, h.rdr.grown hg (by intro b e; injection e with e; omega), grown_rows h.grown hg (by intro b e; injection e with e; omega)⟩
set_option maxRecDepth 100000 in
set_option maxHeartbeats 8000000 in
theorem decodeOne_any (g : Nat) (l : List UInt8) (x : Int) (w : World) (h : O.Rdr w g l x) (hl : l.length ≤ 1000000000) :
    Calls Tryd.prog 53 #[.pointer (some ⟨g, 0, none⟩)] w (O.RdrOut w g (enV (entOf (l, x)).1) (entOf (l, x)).2.1 (entOf (l, x)).2.2) := by
  obtain ⟨w0, hw0⟩ : ∃ w0, ((w.alloc (.cells #[.pointer (some ⟨g, 0, none⟩)] 75)).alloc (.cells (enC default).toArray 38)).alloc (.cells (enC default).toArray 38) = w0 := ⟨_, rfl⟩
  have hg0 : w.grownBy w0 none := by rw [← hw0]; exact grown_alloc (grown_alloc (grown_alloc (grown_refl _ _) _) _) _
  have hlt := h.lt
  have HD0 : Hid (DOne w w0 w.heap.size g l x (enC default)) := Lib.hid ⟨rfl, hlt, by rw [← hw0]; exact ((Row.new _ _ _).alloc _).alloc _, by rw [← hw0]; exact (Row.newAt _ _ _ (by simp)).alloc _, by rw [← hw0]; exact Row.newAt _ _ _ (by simp),
    h.grown hg0 (by intro b e; cases e), grown_none hg0 _⟩
  have hN := O.numOf_len
  have hT := textOf_rest
  have HX := Lib.hid (show entOf (l, x) = _ from rfl)
  simp only [entOf]
  generalize ha : O.numOf l x 1099511627775 = a at *
  have la : a.2.1.length ≤ 1000000000 := by rw [← ha]; exact Nat.le_trans (hN _ _ _) hl
  generalize hb : O.numOf a.2.1 a.2.2 1099511627775 = b at *
  have lb : b.2.1.length ≤ 1000000000 := by rw [← hb]; exact Nat.le_trans (hN _ _ _) la
  generalize hc : O.numOf b.2.1 b.2.2 1099511627775 = c at *
  have lc : c.2.1.length ≤ 1000000000 := by rw [← hc]; exact Nat.le_trans (hN _ _ _) lb
  generalize hd : O.numOf c.2.1 c.2.2 1099511627775 = d at *
  have ld : d.2.1.length ≤ 1000000000 := by rw [← hd]; exact Nat.le_trans (hN _ _ _) lc
  generalize he : O.numOf d.2.1 d.2.2 1099511627775 = f at *
  have lf : f.2.1.length ≤ 1000000000 := by rw [← he]; exact Nat.le_trans (hN _ _ _) ld
  generalize hp : textOf f.2.1 f.2.2 256 = p at *
  have lp : p.2.1.length ≤ 1000000000 := by rw [← hp]; exact Nat.le_trans (hT _ _ _) lf
  generalize ht : textOf p.2.1 p.2.2 256 = t at *
  have C1 := Lib.hid (fun W (h : DOne w W w.heap.size g l x (enC default)) => by have := dnum_at w.heap.size g l x W h.box h.rdr (by omega); rw [ha] at this; exact this)
  have C2 := Lib.hid (fun W (h : DOne w W w.heap.size g a.2.1 a.2.2 (enC default)) => by have := dnum_at w.heap.size g _ _ W h.box h.rdr (by omega); rw [hb] at this; exact this)
  have C3 := Lib.hid (fun W (h : DOne w W w.heap.size g b.2.1 b.2.2 (enC default)) => by have := dnum_at w.heap.size g _ _ W h.box h.rdr (by omega); rw [hc] at this; exact this)
  have C4 := Lib.hid (fun W (h : DOne w W w.heap.size g c.2.1 c.2.2 (enC default)) => by have := dnum_at w.heap.size g _ _ W h.box h.rdr (by omega); rw [hd] at this; exact this)
  have C5 := Lib.hid (fun W (h : DOne w W w.heap.size g d.2.1 d.2.2 (enC default)) => by have := dnum_at w.heap.size g _ _ W h.box h.rdr (by omega); rw [he] at this; exact this)
  have C6 := Lib.hid (fun W cs (h : DOne w W w.heap.size g f.2.1 f.2.2 cs) => by have := dtext_at w.heap.size g _ _ W h.box h.rdr (by omega); rw [hp] at this; exact this)
  have C7 := Lib.hid (fun W cs (h : DOne w W w.heap.size g p.2.1 p.2.2 cs) => by have := dtext_at w.heap.size g _ _ W h.box h.rdr (by omega); rw [ht] at this; exact this)
  clear hN hT HX ha hb hc hd he hp ht la lb lc ld lf lp hl h hg0 hlt
  obtain ⟨a1, a2, a3⟩ := a
  obtain ⟨b1, b2, b3⟩ := b
  obtain ⟨c1, c2, c3⟩ := c
  obtain ⟨d1, d2, d3⟩ := d
  obtain ⟨f1, f2, f3⟩ := f
  obtain ⟨p1, p2, p3⟩ := p
  obtain ⟨t1, t2, t3⟩ := t
  simp only [enC] at hw0
  subst hw0
  go_enter Tryd.func53, Tryd.ntmps53
  go_wp2_with fail
  refine (C1.out _ HD0.out).mono ?_
  rintro e1 w1 ⟨rfl, hr, hg⟩
  have HD1 := Lib.hid (HD0.out.call hr hg)
  clear hr hg HD0 C1
  go_wp2_with fail
  refine (C2.out _ HD1.out).mono ?_
  rintro e2 w2 ⟨rfl, hr, hg⟩
  have HD2 := Lib.hid (HD1.out.call hr hg)
  clear hr hg HD1 C2
  go_wp2_with fail
  refine (C3.out _ HD2.out).mono ?_
  rintro e3 w3 ⟨rfl, hr, hg⟩
  have HD3 := Lib.hid (HD2.out.call hr hg)
  clear hr hg HD2 C3
  go_wp2_with fail
  refine (C4.out _ HD3.out).mono ?_
  rintro e4 w4 ⟨rfl, hr, hg⟩
  have HD4 := Lib.hid (HD3.out.call hr hg)
  clear hr hg HD3 C4
  go_wp2_with fail
  refine (C5.out _ HD4.out).mono ?_
  rintro e5 w5 ⟨rfl, hr, hg⟩
  have HD := Lib.hid (HD4.out.call hr hg)
  clear hr hg HD4 C5
  go_wp2_with (first
    | (refine wpList_store3 rfl rfl _ _ rfl (w.heap.size + 2) _ _ _ _ rfl rfl HD.out.ent (by simp [enC]) ?_; intro w6 hz hg; have HDn := Lib.hid (HD.out.store hz hg); clear hz hg HD; have HD := HDn; clear HDn)
    | (refine wpList_store9 rfl rfl _ _ rfl (w.heap.size + 2) _ _ _ _ rfl rfl HD.out.ent (by simp [enC]) ?_; intro w6 hz hg; have HDn := Lib.hid (HD.out.store hz hg); clear hz hg HD; have HD := HDn; clear HDn)
    | (go_at_call 79; refine (C6.out _ _ HD.out).mono ?_; rintro e6 w6 ⟨rfl, hr, hg⟩; have HE := Lib.hid (HD.out.call hr hg); clear hr hg HD C6)
    | (go_at_call 79; refine (C7.out _ _ HE.out).mono ?_; rintro e7 w7 ⟨rfl, hr, hg⟩; have HD := Lib.hid (HE.out.call hr hg); clear hr hg HE C7)
    | (refine wpList_load_row _ rfl _ 38 rfl (w.heap.size + 2) 38 _ _ rfl HD.out.ent Tryd.underlying38 rfl (by kernel_rfl) ?_)
    | (refine wpList_store_row _ rfl rfl _ _ 38 rfl (w.heap.size + 1) 38 (enC default) (enC ⟨p1, a1, b1, c1, t1, d1, f1⟩) rfl rfl HD.out.res rfl (enC_one _) (by kernel_rfl) ?_; intro w9 hz9 hg9; have HZ9 := Lib.hid hz9; have HR9 := Lib.hid (HD.out.rdr.grown hg9 (by intro b e; injection e with e; have := HD.out.low; omega)); have HG9 := Lib.hid (grown_rows HD.out.grown hg9 (by intro b e; injection e with e; omega)); clear hz9 hg9))
  refine bodyPost_ret (v := enV ⟨p1, a1, b1, c1, t1, d1, f1⟩) ?_ rfl ⟨rfl, HR9.out, HG9.out⟩
  exact results_row Tryd.results53 (w.heap.size + 1) 38 (enC ⟨p1, a1, b1, c1, t1, d1, f1⟩) _ (by rfl) HZ9.out Tryd.underlying38 rfl (by kernel_rfl)

end Go.Proofs.YtiakkfcjdmecdaaDoor
