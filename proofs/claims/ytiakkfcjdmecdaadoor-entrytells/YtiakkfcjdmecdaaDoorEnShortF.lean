/-
  entry.short over this program, of files that may be gone through; what entry.Of asks of a file's path.
-/
import Derived.Test.YtiakkfcjdmecdaaDoorMEn
import Derived.Test.YtiakkfcjdmecdaaDoorEnHas
namespace Go.Proofs.YtiakkfcjdmecdaaDoor
set_option maxRecDepth 1000000
open Go.RowKit

theorem named_any (f : Fl) (A2 : Option Addr) (c2 : Nat) (w : World) (h : f.path.length < 1000000000) :
    Calls Tryd.prog 33 #[flV f (.slice A2 f.data.length c2)] w (Val (.bool (rightB f.path)) w) := by
  have HR := Lib.hid (fun w' => right_any (bts f.path) w' (by rw [bts_size]; exact h))
  have hd := bts_data f.path
  clear h
  go_enter Tryd.func33, Tryd.ntmps33
  simp only [flV, flC]
  go_wp2_with fail
  refine (HR.out _).mono ?_
  rintro e1 w1 ⟨rfl, hg⟩
  rw [hd]
  have HG := Lib.hid hg
  clear hg hd HR
  go_wp2
  go_ret
  exact ⟨rfl, (grown_alloc (grown_refl _ _) _).trans HG.out⟩

set_option maxHeartbeats 4000000 in
theorem fits_any (f : Fl) (A2 : Option Addr) (c2 g s : Nat) (W : World) (hr : Row W g 3 [.int .i64 (s : Int)]) (hs : s + f.data.length ≤ 4194304) (hz : f.data.length ≤ 1048576) :
    Calls Tryd.prog 65 #[flV f (.slice A2 f.data.length c2), .pointer (some ⟨g, 0, none⟩)] W
      (fun e' W' => e' = .returned (.bool true) ∧ Row W' g 3 [.int .i64 ((s + f.data.length : Nat) : Int)] ∧ W.grownBy W' (some g)) := by
  have hc := fun o => (hr.alloc o).cell (j := 0) rfl
  have hf := fun o => (hr.alloc o).frozen 0
  have hr2 : Row (W.setCell ⟨g, 0, none⟩ (.int .i64 ((s : Int) + (f.data.length : Int)))) g 3 [.int .i64 ((s : Int) + (f.data.length : Int))] := hr.set 0 _
  have hc2 := fun o => (hr2.alloc o).cell (j := 0) rfl
  have HR := Lib.hid (fun o => hr2.alloc o)
  have hb := hr.lt
  have HG := Lib.hid (fun o => grown_alloc (grown_set W g 0 (.int .i64 ((s : Int) + (f.data.length : Int)))) o)
  clear hr hr2
  have w1 : wrap64 ((s : Int) + (f.data.length : Int)) = (s : Int) + (f.data.length : Int) := by unfold wrap64; omega
  go_enter Tryd.func65, Tryd.ntmps65
  simp only [flV, flC]
  go_wp2
  go_ret
  exact ⟨by simp; omega, by rw [Int.natCast_add]; exact HR.out _, HG.out _⟩

theorem atF {l : List Fl} {p : Fl → Prop} (h : ∀ e ∈ l, p e) {k : Nat} (hk : k < l.length) : p (l.getD k default) := h _ (by simp [List.getElem?_eq_getElem hk])
theorem few_sum {l : List Fl} (h : FewF l) (k : Nat) : (dataF (l.take k)).length ≤ 2400 := by
  have h1 := dataF_bound 200 (l.take k) (fun f hf => (h.2 f (List.mem_of_mem_take hf)).2.2)
  have h2 : (l.take k).length ≤ 12 := by rw [List.length_take]; have := h.1; omega
  have h3 : (l.take k).length * 200 ≤ 12 * 200 := Nat.mul_le_mul_right _ h2
  omega
set_option maxHeartbeats 4000000 in
theorem fshort_any (v : Value) (l : List Fl) (w : World) (hr : RdF w v l) (hf : FewF l) :
    Calls Tryd.prog 38 #[v] w (Val (.bool true) w) := by
  obtain ⟨A, c, rfl⟩ := hr.form
  obtain ⟨n, hn⟩ : ∃ n, l.length = n := ⟨_, rfl⟩
  have HN := Lib.hid hn
  rw [hn] at hr ⊢
  have hle := hf.1
  have hg0 : w.grownBy (w.alloc (.cells #[.int .i64 0] 3)) none := grown_alloc (grown_refl _ _) _
  have hrow : Row (w.alloc (.cells #[.int .i64 0] 3)) w.heap.size 3 [.int .i64 0] := Row.new _ _ _
  have HX := Lib.hid (allFits_any w.heap.size (fun k W => w.grownBy W none ∧ Row W w.heap.size 3 [.int .i64 ((dataF (l.take k)).length : Int)]) (fun _ => true) (some w.heap.size) A n c l _ hn (by omega)
    (fun r e => by injection e with e; subst e; exact hrow.lt) (fun k W h => hr.grown0 h.1) (fun k W W' h hg => ⟨h.1.trans hg, h.2.grown0 hg⟩)
    (fun k W A2 c2 hk h _ => by
      have h1 := few_sum hf k
      have h2 := atF (p := fun f => f.path.length ≤ 300 ∧ f.to.length ≤ 300 ∧ f.data.length ≤ 200) hf.2 (k := k) (by omega)
      refine (fits_any (l.getD k default) A2 c2 w.heap.size (dataF (l.take k)).length W h.2 (by omega) (by omega)).mono ?_
      rintro e W2 ⟨he, hrw, hg2⟩
      refine ⟨he, ⟨grown_new h.1 hg2 (fun r e => by injection e with e; omega), ?_⟩, hg2⟩
      rw [dataF_next l k (by omega), List.length_append]
      exact hrw) ⟨hg0, hrow⟩)
  have HG0 := Lib.hid hg0
  have hlt : n ≤ 1024 := by omega
  clear hr hf hg0 hrow hle hn
  go_enter Tryd.func38, Tryd.ntmps38
  go_wp2_with fail
  refine HX.out.mono ?_
  rintro e1 w1 ⟨r, rfl, hri, hg⟩
  have HG := Lib.hid (grown_new HG0.out hg (fun r e => by injection e with e; omega))
  have hrt : r = true := hri.2 (fun _ _ => by simp)
  subst hrt
  clear hri hg HX
  go_wp2
  go_ret
  exact ⟨rfl, HG.out⟩
end Go.Proofs.YtiakkfcjdmecdaaDoor
