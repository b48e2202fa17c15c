/-
  entry.Find over this program.
-/
import Derived.Test.YtiakkfcjdmecdaaDoorEnAwake
import Derived.Test.YtiakkfcjdmecdaaDoorEnFiles
import Derived.Laws.ResultCell
namespace Go.Proofs.YtiakkfcjdmecdaaDoor
set_option maxRecDepth 1000000
open Go.RowKit

/-- Two results, of which the first lies in a block of its own. -/
theorem results_row_tmp {P : Program} {tmps : Array Value} {w : World} {f : Func} {d u : Nat} {ty : TypeId} (hres : f.results = #[.cell d ty, .tmp u]) (g : Nat) (t : TypeId) (cs : List Value) (de : TypeDesc) (hv : tmps.getD d undef = .pointer (some ⟨g, 0, none⟩)) (hr : Row w g t cs)
    (hu : P.underlying ty = some de) (hd : (match de with | .struct _ | .array _ _ => true | _ => false) = true) (hi : (P.info? ty).map (·.size) = some cs.length) :
    (results f tmps).run P w = .ok (.tuple #[.agg cs.toArray, tmps.getD u undef]) w := by
  have hl := run_load_part (P := P) w g 0 t ty cs cs de hr (fun j u hu => by rw [Nat.zero_add]; exact hu) hu hd hi
  rw [results_cell_tmp hres, hv]
  simp [asAddr, Result.andThen, hl]

theorem find_one (e : En) (p : List UInt8) (g : Nat) (W : World) (hr : Row W g 9 [.string (bts p)]) :
    Calls Tryd.prog 45 #[enV e, .pointer (some ⟨g, 0, none⟩)] W (Val (.bool (decide (e.path = p))) W) := by
  have hc := fun o => (hr.alloc o).cell (j := 0) rfl
  have hq := bts_eq e.path p
  clear hr
  go_enter Tryd.func45, Tryd.ntmps45
  simp only [enV, enC]
  go_wp2
  go_ret
  exact ⟨by rw [← hq]; rfl, grown_alloc (grown_refl _ _) _⟩

def findE (l : List En) (p : List UInt8) : Option En := l.find? (fun e => decide (e.path = p))
/-- What Find answers. -/
def FindOut (l : List En) (p : List UInt8) (w : World) (e : Ending) (w' : World) : Prop := e = .returned (.tuple #[enV ((findE l p).getD default), .bool (findE l p).isSome]) ∧ w.grownBy w' none
theorem find_none {l : List En} {p : List UInt8} (h : ∀ j, j < l.length → decide ((l.getD j default).path = p) = false) : findE l p = none := by
  rw [findE, List.find?_eq_none]
  exact mem_at (p := fun e => ¬ decide (e.path = p) = true) fun j hj => by rw [h j hj]; decide
theorem find_some {l : List En} {p : List UInt8} {k : Nat} (hk : k < l.length) (h : decide ((l.getD k default).path = p) = true) (h2 : ∀ j, j < k → decide ((l.getD j default).path = p) = false) : findE l p = some (l.getD k default) := by
  induction l generalizing k with
  | nil => simp at hk
  | cons e l ih =>
    rw [findE, List.find?_cons]
    rcases k with _ | k
    · have : decide (e.path = p) = true := h
      rw [this]; rfl
    · have h0 : decide (e.path = p) = false := h2 0 (by omega)
      rw [h0]
      exact ih (k := k) (by simpa using hk) h (fun j hj => h2 (j + 1) (by omega))

set_option maxHeartbeats 4000000 in
theorem find_any (v : Value) (p : List UInt8) (l : List En) (w : World) (hr : RdE w v l) (hnb : l.length ≤ 1000000) :
    Calls Tryd.prog 22 #[v, .string (bts p)] w (FindOut l p w) := by
  obtain ⟨A, c, rfl⟩ := hr.form
  obtain ⟨n, hn⟩ : ∃ n, l.length = n := ⟨_, rfl⟩
  have HN := Lib.hid hn
  rw [hn] at hr hnb ⊢
  obtain ⟨w0, hw0⟩ : ∃ w0, (w.alloc (.cells #[.string (bts p)] 9)).alloc (.cells (enC default).toArray 38) = w0 := ⟨_, rfl⟩
  have hg0 : w.grownBy w0 none := by rw [← hw0]; exact grown_alloc (grown_alloc (grown_refl _ _) _) _
  have hrs : Row w0 w.heap.size 9 [.string (bts p)] := by rw [← hw0]; exact (Row.new _ _ _).alloc _
  have HZ : Hid (Row w0 (w.heap.size + 1) 38 (enC default)) := by rw [← hw0]; exact Lib.hid (Row.newAt _ _ _ (by simp))
  have HX := Lib.hid (idxFind_any w.heap.size (fun _ W => RdE W (.slice A n c) l ∧ Row W w.heap.size 9 [.string (bts p)]) (fun k => decide ((l.getD k default).path = p)) none A n c l w0 hn hnb (fun _ _ h => h.1)
    (fun k W hk h => (find_one (l.getD k default) p w.heap.size W h.2).mono fun e W2 ⟨he, hg⟩ => ⟨he, ⟨h.1.grown0 hg, h.2.grown0 hg⟩, hg⟩) ⟨hr.grown0 hg0, hrs⟩)
  have HG0 := Lib.hid hg0
  have HR := Lib.hid hr
  clear hr hrs hg0 hn
  simp only [enC] at hw0
  subst hw0
  go_enter Tryd.func22, Tryd.ntmps22
  go_wp2_with fail
  refine HX.out.mono ?_
  rintro e1 w1 ⟨i, rfl, hf, _, hg⟩
  have HG := Lib.hid (HG0.out.trans hg)
  have HZ1 := Lib.hid (HZ.out.grown0 hg)
  clear hg HX HZ HG0
  rcases hf with ⟨rfl, hf⟩ | ⟨k, rfl, hk, h1, h2⟩
  · have HF := Lib.hid (find_none (l := l) (p := p) (by rw [HN.out]; exact hf))
    clear hf
    go_wp2_with (refine wpList_store_row _ rfl rfl _ _ 38 rfl (w.heap.size + 1) 38 (enC default) (enC default) rfl rfl HZ1.out rfl (enC_one _) (by kernel_rfl) ?_)
    intro w2 hz2 hg2
    have HZ2 := Lib.hid hz2
    have HG2 := Lib.hid (grown_new HG.out hg2 (fun r e => by injection e with e; omega))
    clear hz2 hg2 HZ1
    go_wp2
    refine bodyPost_ret (v := .tuple #[enV default, .bool false]) ?_ rfl ⟨by rw [HF.out]; rfl, HG2.out⟩
    exact results_row_tmp Tryd.results22 (w.heap.size + 1) 38 (enC default) _ (by rfl) HZ2.out Tryd.underlying38 rfl (by kernel_rfl)
  · have HF := Lib.hid (find_some (l := l) (p := p) (k := k) (by rw [HN.out]; exact hk) h1 h2)
    obtain ⟨ad, rfl, c0, c1, c2, c3, c4, c5, c6⟩ := (HR.out.grown0 HG.out).step (k := k) (by rw [HN.out]; exact hk)
    clear h1 h2
    generalize l.getD k default = t at *
    go_wp2_with (refine wpList_store_row _ rfl rfl _ _ 38 rfl (w.heap.size + 1) 38 (enC default) (enC t) rfl rfl HZ1.out rfl (enC_one _) (by kernel_rfl) ?_)
    intro w2 hz2 hg2
    have HZ2 := Lib.hid hz2
    have HG2 := Lib.hid (grown_new HG.out hg2 (fun r e => by injection e with e; omega))
    clear hz2 hg2 HZ1 c0 c1 c2 c3 c4 c5 c6
    go_wp2
    refine bodyPost_ret (v := .tuple #[enV t, .bool true]) ?_ rfl ⟨by rw [HF.out]; rfl, HG2.out⟩
    exact results_row_tmp Tryd.results22 (w.heap.size + 1) 38 (enC t) _ (by rfl) HZ2.out Tryd.underlying38 rfl (by kernel_rfl)
end Go.Proofs.YtiakkfcjdmecdaaDoor
