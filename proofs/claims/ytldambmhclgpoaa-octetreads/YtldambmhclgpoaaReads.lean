/-
  The walk of the law OctetReads.
-/
import Derived.Test.YtldambmhclgpoaaRefFix
import Derived.Test.YtldambmhclgpoaaReg2Ops
import Derived.BigQuiet
import Derived.Deep.QuietTactic
namespace Go.Proofs.Ytldambmhclgpoaa
open Go.RowKit

section
variable {o : Oper} {a : Act} {w : World}
theorem ex_fieldN {x : Operand} {q : Nat} (h : o.op = .fieldAddr 39 x 1) (hx : Is (.pointer (some ⟨q, 0, none⟩)) (a.eval x) w) :
    (execOp a.eval o).run Try.prog w = .ok (.value (.pointer (some ⟨q, 1, none⟩))) w := by
  have hx' : a.eval x = .pointer (some ⟨q, 0, none⟩) := hx
  simp only [execOp, h, hx']
  simp [go_sem]
theorem ex_loadInt {x : Operand} {q i : Nat} {z : Int} (h : o.op = .load 3 x) (hx : Is (.pointer (some ⟨q, i, none⟩)) (a.eval x) w) (hc : w.cell? ⟨q, i, none⟩ = some (.int .i64 z)) :
    (execOp a.eval o).run Try.prog w = .ok (.value (.int .i64 z)) w := by
  have hx' : a.eval x = .pointer (some ⟨q, i, none⟩) := hx
  simp only [execOp, h, hx']
  simp [go_sem, hc]
theorem ex_loadSt {x : Operand} {q : Nat} {v : Value} {z : Int} (h : o.op = .load 37 x) (hx : Is (.pointer (some ⟨q, 0, none⟩)) (a.eval x) w) (hb : w.heap[q]? = some (.cells #[v, .int .i64 z] 37 (0, 0))) :
    (execOp a.eval o).run Try.prog w = .ok (.value (.agg #[v, .int .i64 z])) w := by
  have hx' : a.eval x = .pointer (some ⟨q, 0, none⟩) := hx
  have h0 : w.cell? ⟨q, 0, none⟩ = some v := by rw [cell_blk hb]; rfl
  have h1 : w.cell? ⟨q, 1, none⟩ = some (.int .i64 z) := by rw [cell_blk hb]; rfl
  simp only [execOp, h, hx']
  simp [go_sem, h0, h1]
end

/-- The list of steps, as it lies in memory. -/
def RdDo (w : World) (v : Value) (ds : List (Int × Int)) : Prop :=
  ∃ A c, v = .slice A ds.length c ∧ (ds ≠ [] → ∃ ad : Addr, A = some ad ∧ ∀ (j : Nat) (d : Int × Int), ds[j]? = some d → w.cell? (ad.add (j * 2)) = some (.int .i64 d.1) ∧ w.cell? (ad.add (j * 2 + 1)) = some (.int .i64 d.2))

theorem RdDo.grown {w w' : World} {v : Value} {ds : List (Int × Int)} (h : RdDo w v ds) (hg : w.grownBy w' none) : RdDo w' v ds := by
  obtain ⟨A, c, rfl, h3⟩ := h
  refine ⟨A, c, rfl, fun hne => ?_⟩
  obtain ⟨ad, rfl, hc⟩ := h3 hne
  refine ⟨ad, rfl, fun j d hd => ?_⟩
  obtain ⟨h1, h2⟩ := hc j d hd
  have e : ∀ k u, w.cell? (ad.add k) = some u → w'.cell? (ad.add k) = some u := by
    intro k u hk
    have hlt := World.block_lt_of_cell? w _ hk
    rw [← hk]
    exact World.cell?_of_block (hg.block _ hlt (by simp))
  exact ⟨e _ _ h1, e _ _ h2⟩

/-- What stands in memory when so many steps are done: the state in block p, the reader in block g. -/
def St (w W : World) (own : Value) (g p m : Nat) (l : List UInt8) (x : Int) : Prop :=
  ∃ v, W.heap[p]? = some (.cells #[v, .int .i64 x] 37 (0, 0)) ∧ Rd W v (bytesV l) ∧ (∀ b, v.ownBlock = some b → own.ownBlock = some b) ∧ l.length ≤ m ∧ Rdr W g l x ∧ w.grownBy W none

theorem St.drewN {w W : World} {own : Value} {g p m : Nat} {l : List UInt8} {x : Int} (h : St w W own g p m l x) (k : Nat) : St w (W.drewN k) own g p m l x := by
  obtain ⟨v, h1, h2, h3, h4, h5, h6⟩ := h
  exact ⟨v, h1, h2, h3, h4, h5, ⟨h6.os, h6.tape, h6.output, h6.size, h6.block⟩⟩

theorem lt_blk {w : World} {g : Nat} {o : Obj} (h : w.heap[g]? = some o) : g < w.heap.size := by
  rcases Nat.lt_or_ge g w.heap.size with hl | hl
  · exact hl
  · rw [Array.getElem?_eq_none hl] at h; cases h
theorem rbytesOf_len (l : List UInt8) (x most : Int) : (rbytesOf l x most).2.1.length ≤ l.length ∧ (rbytesOf l x most).1.length ≤ l.length := by
  unfold rbytesOf
  have h0 := numOf_len l x most
  have h1 := takeOf_len2 (numOf l x most).2.1 (numOf l x most).2.2 (numOf l x most).1
  have h2 := takeOf_len (numOf l x most).2.1 (numOf l x most).2.2 (numOf l x most).1
  omega
theorem fixOf_len (l : List UInt8) (x k : Int) : (fixOf l x k).2.1.length ≤ l.length := by
  unfold fixOf
  split
  · exact takeOf_len2 l x _
  · simp

theorem Rdr.keepX {w0 w : World} {g : Nat} {l : List UInt8} {x : Int} (h : Rdr w0 g l x) (hg : w.heap[g]? = w0.heap[g]?) (hb : ∀ b, b < g → b < w0.heap.size → w.heap[b]? = w0.heap[b]?) : Rdr w g l x := by
  obtain ⟨v, h1, h2, h3⟩ := h
  exact ⟨v, hg.trans h1, h2.keep (fun b hbo hlt => hb b (h3 b hbo) hlt), h3⟩
theorem grown_newX {w w1 w2 : World} {S : List Nat} (h : w.grownBy w1 none) (k : GrownX S w1 w2) (hr : ∀ b ∈ S, w.heap.size ≤ b) : w.grownBy w2 none :=
  ⟨k.os.trans h.os, k.tape.trans h.tape, k.output.trans h.output, Nat.le_trans h.size k.size, fun i hi _ =>
    (k.block i (Nat.lt_of_lt_of_le hi h.size) (fun e => by have := hr i e; omega)).trans (h.block i hi (by simp))⟩
theorem ex_storeSt {o : Oper} {a : Act} {w : World} {x y : Operand} {q : Nat} {v c0 : Value} {z z0 : Int} {A : Option Addr} {n c : Nat} (hv : v = .slice A n c) (h : o.op = .store 37 x y) (hx : Is (.pointer (some ⟨q, 0, none⟩)) (a.eval x) w) (hy : Is (.agg #[v, .int .i64 z]) (a.eval y) w)
    (hb : w.heap[q]? = some (.cells #[c0, .int .i64 z0] 37 (0, 0))) :
    (execOp a.eval o).run Try.prog w = .ok .skip ((w.setCell ⟨q, 0, none⟩ v).setCell ⟨q, 1, none⟩ (.int .i64 z)) := by
  subst hv
  have hx' : a.eval x = .pointer (some ⟨q, 0, none⟩) := hx
  have hy' : a.eval y = .agg #[.slice A n c, .int .i64 z] := hy
  have h0 : w.cell? ⟨q, 0, none⟩ = some c0 := by rw [cell_blk hb]; rfl
  have h1 : w.cell? ⟨q, 1, none⟩ = some (.int .i64 z0) := by rw [cell_blk hb]; rfl
  have f0 : w.frozen? ⟨q, 0, none⟩ = false := froz_blk hb
  have f1 : w.frozen? ⟨q, 1, none⟩ = false := froz_blk hb
  simp only [execOp, h, hx', hy']
  simp [go_sem, h0, h1, f0, f1]

set_option maxHeartbeats 4000000 in
set_option maxRecDepth 100000 in
theorem reads_walk (v u : Value) (b : List UInt8) (ds : List (Int × Int)) (w : World) (hv : Rd w v (bytesV b)) (hu : RdDo w u ds) :
    Calls Try.prog 4 #[v, u] w (Awake w) := by
  have HV := hv
  obtain ⟨A, c, rfl⟩ := hv.form
  rw [bytesV_len] at HV ⊢
  have HD := hu
  obtain ⟨A', c', rfl, _⟩ := hu
  clear hv
  by_cases hb : 2000 < b.length
  · go_enter Try.func4, Try.ntmps4
    go_wp2_with fail
    refine (awake_any _).mono ?_
    rintro e w1 ⟨rfl, hg1⟩
    go_wp2
    go_ret
    exact ⟨rfl, hg1⟩
  · have hbb : decide (2000 < b.length) = false := by simpa using hb
    by_cases hx : 40 < ds.length
    · go_enter Try.func4, Try.ntmps4
      go_wp2_with fail
      refine (awake_any _).mono ?_
      rintro e w1 ⟨rfl, hg1⟩
      go_wp2
      go_ret
      exact ⟨rfl, hg1⟩
    · have hxb : decide (40 < ds.length) = false := by simpa using hx
      have HW := Lib.hid (new_any (.slice A b.length c) b w HV (by omega))
      go_enter Try.func4, Try.ntmps4
      go_wp2_with fail
      refine HW.out.mono ?_
      rintro e w1 ⟨g, rfl, hr1, hl1, hg1⟩
      have hglt := hr1.lt
      generalize hn : ds.length = n at *
      have HN := Lib.hid hn
      generalize hm : b.length = m at *
      have HM := Lib.hid hm
      clear hn hm
      have hS0 : St w (w1.alloc (.cells #[.slice A m c, .int .i64 0] 37)) (.slice A m c) g w1.heap.size m b 0 := by
        have hga : w1.grownBy (w1.alloc (.cells #[.slice A m c, .int .i64 0] 37)) none := grown_alloc (grown_refl _ _) _
        exact ⟨_, heap_alloc_new _ _, (HV.grown0 hg1).grown0 hga, fun b hb => hb, by rw [HM.out]; exact Nat.le_refl _, hr1.grown hga (fun _ h => by cases h), hg1.trans hga⟩
      have HS0 := Lib.hid hS0
      have HGW : Hid (w.heap.size ≤ g) := hl1
      clear hS0 hr1 HW
      go_wp2
      go_loopw [32] (fun t W => ∃ (j : Nat) (l : List UInt8) (x : Int), j ≤ n ∧ t = .int .i64 j ∧ St w W (.slice A m c) g w1.heap.size m l x) (fun t _ => n - (intOf t).toNat)
      case atStart => exact ⟨0, b, 0, Nat.zero_le _, rfl, HS0.out⟩
      case round =>
        obtain ⟨j, l, x, hj, rfl, v1, hp, hrv, hown, hlm, hrd, hgr⟩ := hrel
        by_cases hlt : j < n
        · have hjl : j < ds.length := by rw [HN.out]; exact hlt
          obtain ⟨A2, c2, he, hcs⟩ := HD.grown hgr
          obtain ⟨ad, hA2, hcl⟩ := hcs (by rintro rfl; simp at hjl)
          have hA3 : A' = some ad := by
            injection he with h1 h2 h3
            rw [h1, hA2]
          subst hA3
          obtain ⟨hc0, hc1⟩ := hcl j ds[j] (List.getElem?_eq_getElem hjl)
          generalize ds[j].1 = vb at hc0
          generalize ds[j].2 = N at hc1
          have hc2 : wr.cell? ⟨(ad.add (j * 2)).block, (ad.add (j * 2)).off + 1, none⟩ = some (.int .i64 N) := by
            rw [← hc1, ← add_add]
            rfl
          clear hc1
          clear he hA2 hcl hcs
          have hplt : w1.heap.size < wr.heap.size := by
            rcases Nat.lt_or_ge w1.heap.size wr.heap.size with h | h
            · exact h
            · rw [Array.getElem?_eq_none h] at hp; cases hp
          have hgp : g ≠ w1.heap.size := by omega
          have HP := Lib.hid hp
          have hrv' := hrv
          obtain ⟨A1, c1, rfl⟩ := hrv'.form
          clear hp hrv'
          have hcell0 : wr.cell? ⟨w1.heap.size, 0, none⟩ = some (.slice A1 (bytesV l).length c1) := by rw [cell_blk HP.out]; rfl
          have hcell1 : wr.cell? ⟨w1.heap.size, 1, none⟩ = some (.int .i64 x) := by rw [cell_blk HP.out]; rfl
          have hfr1 : wr.frozen? ⟨w1.heap.size, 1, none⟩ = false := froz_blk HP.out
          have hl2000 : l.length ≤ 2000 := by omega
          by_cases h0 : vb = 0
          · subst h0
            have hga : wr.grownBy (wr.alloc (.cells #[.int .i64 0, .int .i64 N] 39)) none := grown_alloc (grown_refl _ _) _
            have hq0 : (wr.alloc (.cells #[.int .i64 0, .int .i64 N] 39)).heap[wr.heap.size]? = some (.cells #[.int .i64 0, .int .i64 N] 39 (0, 0)) := heap_alloc_new _ _
            have hq1 : wr.heap.size < (wr.alloc (.cells #[.int .i64 0, .int .i64 N] 39)).heap.size := by simp
            have hS : St w (wr.alloc (.cells #[.int .i64 0, .int .i64 N] 39)) (.slice A m c) g w1.heap.size m l x :=
              ⟨.slice A1 (bytesV l).length c1, (hga.block _ hplt (by simp)).trans HP.out, hrv.grown0 hga, hown, hlm, hrd.grown hga (fun _ h => by cases h), hgr.trans hga⟩
            have HS := Lib.hid hS
            have HGA := Lib.hid hga
            have HQ0 := Lib.hid hq0
            clear hS hga hq0
            have hlen1 := numOf_len l x N
            have HREF := refRead_any (.slice A1 (bytesV l).length c1) l x N _ (hrv.grown0 HGA.out) (by omega)
            have HRD : Hid (∀ W3, Rdr W3 g l x → Calls Try.prog 19 #[.pointer (some ⟨g, 0, none⟩), .int .i64 N] W3 (RdrOut W3 g (.int .i64 (numOf l x N).1) (numOf l x N).2.1 (numOf l x N).2.2)) := fun W3 hrdW => rnum_at g l x N W3 hrdW (by omega)
            generalize numOf l x N = pq at *
            obtain ⟨n1, l1, x1⟩ := pq
            simp only at hlen1 HREF HRD
            have HR0 := Lib.hid HREF
            clear HREF
            go_wp2_with fail
            refine HR0.out.mono ?_
            rintro e w2 ⟨v2, rfl, hr2, hb2, hg2⟩
            have HR2 := hr2
            obtain ⟨A2, c2, rfl⟩ := hr2.form
            have hga2 : w2.grownBy (w2.alloc (.cells #[.slice A2 (bytesV l1).length c2, .int .i64 x1] 37)) none := grown_alloc (grown_refl _ _) _
            have hgB := hg2.trans hga2
            have hr2b : (w2.alloc (.cells #[.slice A2 (bytesV l1).length c2, .int .i64 x1] 37)).heap[w2.heap.size]? = some (.cells #[.slice A2 (bytesV l1).length c2, .int .i64 x1] 37 (0, 0)) := heap_alloc_new _ _
            have hlt2 : w2.heap.size < (w2.alloc (.cells #[.slice A2 (bytesV l1).length c2, .int .i64 x1] 37)).heap.size := by simp
            have hqB : (w2.alloc (.cells #[.slice A2 (bytesV l1).length c2, .int .i64 x1] 37)).heap[wr.heap.size]? = some (.cells #[.int .i64 0, .int .i64 N] 39 (0, 0)) := (hgB.block _ hq1 (by simp)).trans HQ0.out
            have hqlt : wr.heap.size < w2.heap.size := by have := hg2.size; omega
            obtain ⟨v9, hp9, hrv9, hown9, hlm9, hrd9, hgr9⟩ := HS.out
            have hpB : (w2.alloc (.cells #[.slice A2 (bytesV l1).length c2, .int .i64 x1] 37)).heap[w1.heap.size]? = some (.cells #[v9, .int .i64 x] 37 (0, 0)) := (hgB.block _ (by have := HGA.out.size; omega) (by simp)).trans hp9
            have hrdB := hrd9.grown hgB (fun _ h => by cases h)
            have hrvB := HR2.grown0 hga2
            skip
            have hgrB := hgr9.trans hgB
            have HK := Lib.hid (And.intro hr2b (And.intro hqB (And.intro hpB (And.intro hrdB (And.intro hrvB (And.intro hgrB trivial))))))
            clear hr2b hqB hpB hrdB hrvB hgrB hga2 hp9 hrv9 hrd9 hgr9 hgB
            go_wp2_with fail
            generalize w2.alloc (.cells #[.slice A2 (bytesV l1).length c2, .int .i64 x1] 37) = W1 at *
            refine wp_region_walk 9 [(4, g), (7, w1.heap.size)] (dis_two hgp) (by kernel_rfl) (by kernel_rfl) (by kernel_rfl) ?_
            simp only [List.take_succ_cons, List.take_zero, List.drop_succ_cons, List.drop_zero]
            refine Walk.val (G := Is (.agg #[.slice A2 (bytesV l1).length c2, .int .i64 x1])) (stays_is _ _) rfl rfl (fun a w hm hd => ⟨wanted_plain rfl, _, ex_loadSt rfl (show Is (.pointer (some ⟨w2.heap.size, 0, none⟩)) _ w by rw [hm.outer 10 (by kernel_rfl)]; exact rfl) ((hm.grow.block _ hlt2 (by simp; omega)).trans HK.out.1), rfl⟩) ?_
            refine Walk.val (G := Is (.pointer (some ⟨g, 0, none⟩))) (stays_is _ _) rfl rfl (fun a w hm hd => ⟨wanted_plain rfl, _, ex_move rfl, by rw [hm.outer 5 (by kernel_rfl)]; exact rfl⟩) ?_
            refine Walk.val (G := Is (.pointer (some ⟨wr.heap.size, 1, none⟩))) (stays_is _ _) rfl rfl (fun a w hm hd => ⟨wanted_plain rfl, _, ex_fieldN rfl (show Is (.pointer (some ⟨wr.heap.size, 0, none⟩)) _ w by rw [hm.outer 8 (by kernel_rfl)]; exact rfl), rfl⟩) ?_
            refine Walk.val (G := Is (.int .i64 N)) (stays_is _ _) rfl rfl (fun a w hm hd => ⟨wanted_plain rfl, _, ex_loadInt rfl (hd.at_ 2 rfl rfl rfl rfl) (by rw [cell_blk ((hm.grow.block _ (show wr.heap.size < W1.heap.size by omega) (by simp; omega)).trans HK.out.2.1)]; rfl), rfl⟩) ?_
            refine Walk.call (G := fun u W => u = .int .i64 n1 ∧ Rdr W g l1 x1) (stays_own (dis_two hgp) (k := 4) (b := g) rfl (fun _ _ _ h hg => ⟨h.1, h.2.grown hg (fun _ h => by cases h)⟩) (fun q hq hne v w w' h hg => ⟨h.1, h.2.grown hg (fun b hb => by injection hb with hb; simp at hq; omega)⟩)) rfl 19 rfl (fun a w hm ha hd => ⟨wanted_plain rfl, _, ex_call2 Try.func19 (by kernel_rfl) (by kernel_rfl) rfl, ?_⟩) ?_
            · have h0 : a.eval (.tmp 48) = .pointer (some ⟨g, 0, none⟩) := hd.at_ 1 rfl rfl rfl rfl
              have h1 : a.eval (.tmp 50) = .int .i64 N := hd.at_ 3 rfl rfl rfl rfl
              rw [h0, h1]
              exact (HRD.out w (Rdr.keepX (w0 := W1.drew) HK.out.2.2.2.1 (ha g rfl (show g < W1.heap.size by omega)) (fun b hb hlt => hm.grow.block b hlt (by simp; omega)))).mono fun _ _ ⟨he, hr, hg⟩ => ⟨_, he, hg, rfl, hr⟩
            refine Walk.val (G := Is (.int .i64 n1)) (stays_is _ _) rfl rfl (fun a w hm hd => ⟨wanted_plain rfl, _, ex_move rfl, by rw [hm.outer 11 (by kernel_rfl)]; exact rfl⟩) ?_
            refine Walk.val (G := Is (.bool true)) (stays_is _ _) rfl rfl (fun a w hm hd => ⟨wanted_plain rfl, _, ex_eqi (p := n1) (q := n1) rfl (show Is (.int .i64 n1) _ w from (hd.at_ (G := fun u W => u = .int .i64 n1 ∧ Rdr W g l1 x1) 4 rfl rfl rfl rfl).1) (hd.at_ 5 rfl rfl rfl rfl), by simp [Is]⟩) ?_
            refine Walk.store (G := fun W => W.heap[w1.heap.size]? = some (.cells #[.slice A2 (bytesV l1).length c2, .int .i64 x1] 37 (0, 0))) (stays_own (dis_two hgp) (k := 7) (b := w1.heap.size) rfl (fun v w w' h hg => (hg.block _ (lt_blk h) (by simp)).trans h) (fun q hq hne v w w' h hg => (hg.block _ (lt_blk h) (fun e => hne (by injection e with e; exact e.symm))).trans h)) rfl (fun a w hm ha hd => ⟨wanted_plain rfl, _, ex_storeSt rfl rfl (show Is (.pointer (some ⟨w1.heap.size, 0, none⟩)) _ w by rw [hm.outer 6 (by kernel_rfl)]; exact rfl) (hd.at_ 0 rfl rfl rfl rfl) ((ha w1.heap.size rfl (show w1.heap.size < W1.heap.size by omega)).trans HK.out.2.2.1), grown_trans2 (grown_set _ _ _ _) (grown_set _ _ _ _), by rw [row_set (row_set ((ha w1.heap.size rfl (show w1.heap.size < W1.heap.size by omega)).trans HK.out.2.2.1) 0 _) 1 _]; rfl⟩) ?_
            refine Walk.val (G := Is (.bool true)) (stays_is _ _) rfl rfl (fun a w hm hd => ⟨wanted_plain rfl, _, ex_assign rfl, hd.at_ 6 rfl rfl rfl rfl⟩) ?_
            intro a w3 hm hall
            have f0 : a.eval (.tmp 47) = _ := hall 0 _ _ rfl rfl
            have f1 : a.eval (.tmp 48) = _ := hall 1 _ _ rfl rfl
            have f2 : a.eval (.tmp 49) = _ := hall 2 _ _ rfl rfl
            have f3 : a.eval (.tmp 50) = _ := hall 3 _ _ rfl rfl
            have f4 := hall 4 _ _ rfl rfl
            have f4a : a.eval (.tmp 51) = .int .i64 n1 := f4.1
            have f5 : a.eval (.tmp 52) = _ := hall 5 _ _ rfl rfl
            have f6 : a.eval (.tmp 53) = _ := hall 6 _ _ rfl rfl
            have f9 : w3.heap[w1.heap.size]? = _ := hall 7 _ _ rfl rfl
            have f10 : a.eval (.tmp 9) = _ := hall 8 _ _ rfl rfl
            have hfr := hm.frame
            simp only [List.take_succ_cons, List.take_zero, List.filterMap_cons, List.filterMap_nil, List.foldl_cons, List.foldl_nil, f0, f1, f2, f3, f4a, f5, f6, f10] at hfr
            have hrd3 : Rdr w3 g l1 x1 := f4.2
            have hgr3 : w.grownBy w3 none := grown_newX (w1 := W1.drew) (grown_drew HK.out.2.2.2.2.2.1) hm.grow (fun b hb => by simp at hb; have := HGW.out; omega)
            have hrv3 : Rd w3 (.slice A2 (bytesV l1).length c2) (bytesV l1) := by
              refine Rd.keepNe (w := W1) HK.out.2.2.2.2.1 fun hne b' hb' hlt' => ?_
              have hlo := HV.low (by rw [Ne, ← List.length_eq_zero_iff, bytesV_len, List.length_eq_zero_iff]; exact ne_of_len (by have := HM.out; omega : l1.length ≤ b.length) (bytesV_ne hne)) b' (hown b' (hb2 b' hb'))
              exact hm.grow.block b' hlt' (by simp; have := HGW.out; omega)
            have hSF : St w w3 (.slice A m c) g w1.heap.size m l1 x1 := ⟨_, f9, hrv3, fun b' hb' => hown b' (hb2 b' hb'), by omega, hrd3, hgr3⟩
            clear HS
            have HS := Lib.hid hSF
            clear hSF hrv3 hrd3 hgr3 hall f0 f1 f2 f3 f4 f4a f5 f6 f9 f10 hm
            rw [hfr]
            clear hfr
            go_wp2_with fail
            generalize w3 = W at *
            obtain ⟨v9, hp9, hrv9, hown9, hlm9, hrd9, hgr9⟩ := HS.out
            have hE9 : Hid (∀ k, Calls Try.prog 28 #[.pointer (some ⟨g, 0, none⟩)] (W.drewN k) fun e w' => e = .returned (.int .i64 x1) ∧ w' = W.drewN k) := fun k => (err_at g l1 x1 (W.drewN k) hrd9).mono fun _ _ ⟨a, b⟩ => ⟨a, b.symm⟩
            have hcx : W.cell? ⟨w1.heap.size, 1, none⟩ = some (.int .i64 x1) := by rw [cell_blk hp9]; rfl
            clear hp9 hrv9 hown9 hrd9
            go_quiet ((go_at_call 28; exact Calls.quiet_of_same (hE9.out _)))
            go_wp2
            exact ⟨⟨j + 1, l1, x1, by omega, by go_num, HS.out.drewN _⟩, by simp [intOf]; omega⟩
          · by_cases h1 : vb = 1
            · subst h1
              have hga : wr.grownBy (wr.alloc (.cells #[.int .i64 1, .int .i64 N] 39)) none := grown_alloc (grown_refl _ _) _
              have hq0 : (wr.alloc (.cells #[.int .i64 1, .int .i64 N] 39)).heap[wr.heap.size]? = some (.cells #[.int .i64 1, .int .i64 N] 39 (0, 0)) := heap_alloc_new _ _
              have hq1 : wr.heap.size < (wr.alloc (.cells #[.int .i64 1, .int .i64 N] 39)).heap.size := by simp
              have hS : St w (wr.alloc (.cells #[.int .i64 1, .int .i64 N] 39)) (.slice A m c) g w1.heap.size m l x :=
                ⟨.slice A1 (bytesV l).length c1, (hga.block _ hplt (by simp)).trans HP.out, hrv.grown0 hga, hown, hlm, hrd.grown hga (fun _ h => by cases h), hgr.trans hga⟩
              have HS := Lib.hid hS
              have HGA := Lib.hid hga
              have HQ0 := Lib.hid hq0
              clear hS hga hq0
              have hlen1 := rbytesOf_len l x N
              have HREF := refReadBytes_any (.slice A1 (bytesV l).length c1) l x N _ (hrv.grown0 HGA.out) (by omega)
              have HRD : Hid (∀ W3, Rdr W3 g l x → Calls Try.prog 21 #[.pointer (some ⟨g, 0, none⟩), .int .i64 N] W3 (RBytesOut W3 g (rbytesOf l x N))) := fun W3 hrdW => rbytes_at g l x N W3 hrdW (by omega)
              generalize rbytesOf l x N = pq at *
              obtain ⟨n1, l1, x1⟩ := pq
              simp only at hlen1 HREF HRD
              have HR0 := Lib.hid HREF
              clear HREF
              go_wp2_with fail
              refine HR0.out.mono ?_
              rintro e w2 ⟨v2, u2, rfl, hr2, hu2, hb2, hbu2, hg2⟩
              have HR2 := hr2
              obtain ⟨A2, c2, rfl⟩ := hr2.form
              obtain ⟨A3, c3, rfl⟩ := hu2.form
              have hga2 : w2.grownBy (w2.alloc (.cells #[.slice A2 (bytesV l1).length c2, .int .i64 x1] 37)) none := grown_alloc (grown_refl _ _) _
              have hgB := hg2.trans hga2
              have hr2b : (w2.alloc (.cells #[.slice A2 (bytesV l1).length c2, .int .i64 x1] 37)).heap[w2.heap.size]? = some (.cells #[.slice A2 (bytesV l1).length c2, .int .i64 x1] 37 (0, 0)) := heap_alloc_new _ _
              have hlt2 : w2.heap.size < (w2.alloc (.cells #[.slice A2 (bytesV l1).length c2, .int .i64 x1] 37)).heap.size := by simp
              have hqB : (w2.alloc (.cells #[.slice A2 (bytesV l1).length c2, .int .i64 x1] 37)).heap[wr.heap.size]? = some (.cells #[.int .i64 1, .int .i64 N] 39 (0, 0)) := (hgB.block _ hq1 (by simp)).trans HQ0.out
              have hqlt : wr.heap.size < w2.heap.size := by have := hg2.size; omega
              obtain ⟨v9, hp9, hrv9, hown9, hlm9, hrd9, hgr9⟩ := HS.out
              have hpB : (w2.alloc (.cells #[.slice A2 (bytesV l1).length c2, .int .i64 x1] 37)).heap[w1.heap.size]? = some (.cells #[v9, .int .i64 x] 37 (0, 0)) := (hgB.block _ (by have := HGA.out.size; omega) (by simp)).trans hp9
              have hrdB := hrd9.grown hgB (fun _ h => by cases h)
              have hrvB := HR2.grown0 hga2
              have huB := hu2.grown0 hga2
              have hgrB := hgr9.trans hgB
              have HK := Lib.hid (And.intro hr2b (And.intro hqB (And.intro hpB (And.intro hrdB (And.intro hrvB (And.intro hgrB huB))))))
              clear hr2b hqB hpB hrdB hrvB hgrB hga2 hp9 hrv9 hrd9 hgr9 hgB huB
              go_wp2_with fail
              generalize w2.alloc (.cells #[.slice A2 (bytesV l1).length c2, .int .i64 x1] 37) = W1 at *
              refine wp_region_walk 11 [(4, g), (9, w1.heap.size)] (dis_two hgp) (by kernel_rfl) (by kernel_rfl) (by kernel_rfl) ?_
              simp only [List.take_succ_cons, List.take_zero, List.drop_succ_cons, List.drop_zero]
              refine Walk.val (G := Is (.agg #[.slice A2 (bytesV l1).length c2, .int .i64 x1])) (stays_is _ _) rfl rfl (fun a w hm hd => ⟨wanted_plain rfl, _, ex_loadSt rfl (show Is (.pointer (some ⟨w2.heap.size, 0, none⟩)) _ w by rw [hm.outer 12 (by kernel_rfl)]; exact rfl) ((hm.grow.block _ hlt2 (by simp; omega)).trans HK.out.1), rfl⟩) ?_
              refine Walk.val (G := Is (.pointer (some ⟨g, 0, none⟩))) (stays_is _ _) rfl rfl (fun a w hm hd => ⟨wanted_plain rfl, _, ex_move rfl, by rw [hm.outer 5 (by kernel_rfl)]; exact rfl⟩) ?_
              refine Walk.val (G := Is (.pointer (some ⟨wr.heap.size, 1, none⟩))) (stays_is _ _) rfl rfl (fun a w hm hd => ⟨wanted_plain rfl, _, ex_fieldN rfl (show Is (.pointer (some ⟨wr.heap.size, 0, none⟩)) _ w by rw [hm.outer 8 (by kernel_rfl)]; exact rfl), rfl⟩) ?_
              refine Walk.val (G := Is (.int .i64 N)) (stays_is _ _) rfl rfl (fun a w hm hd => ⟨wanted_plain rfl, _, ex_loadInt rfl (hd.at_ 2 rfl rfl rfl rfl) (by rw [cell_blk ((hm.grow.block _ (show wr.heap.size < W1.heap.size by omega) (by simp; omega)).trans HK.out.2.1)]; rfl), rfl⟩) ?_
              refine Walk.call (G := fun u W => Rd W u (bytesV n1) ∧ Rdr W g l1 x1 ∧ ∀ b, u.ownBlock = some b → b ≠ w1.heap.size) (stays_own (dis_two hgp) (k := 4) (b := g) rfl (fun _ _ _ h hg => ⟨h.1.grown0 hg, h.2.1.grown hg (fun _ h => by cases h), h.2.2⟩) (fun q hq hne v w w' h hg => ⟨h.1.grown hg (fun b hb e => by injection e with e; simp at hq; have := h.2.2 b hb; omega), h.2.1.grown hg (fun b hb => by injection hb with hb; simp at hq; omega), h.2.2⟩)) rfl 21 rfl (fun a w hm ha hd => ⟨wanted_plain rfl, _, ex_call2 Try.func21 (by kernel_rfl) (by kernel_rfl) rfl, ?_⟩) ?_
              · have h0 : a.eval (.tmp 64) = .pointer (some ⟨g, 0, none⟩) := hd.at_ 1 rfl rfl rfl rfl
                have h1 : a.eval (.tmp 66) = .int .i64 N := hd.at_ 3 rfl rfl rfl rfl
                rw [h0, h1]
                exact (HRD.out w (Rdr.keepX (w0 := W1.drew) HK.out.2.2.2.1 (ha g rfl (show g < W1.heap.size by omega)) (fun b hb hlt => hm.grow.block b hlt (by simp; omega)))).mono fun _ _ ⟨u, he, hr, hrd, hg, hf⟩ => ⟨u, he, hg, hr, hrd, fun b hb => by have := (hf b hb).1; have := hm.grow.size; have : W1.heap.size ≤ w.heap.size := this; omega⟩
              refine Walk.val (G := Is (.string ⟨n1.toArray⟩)) (stays_is _ _) rfl rfl (fun a w hm hd => ⟨wanted_plain rfl, _, ex_conv rfl (show IsB n1 _ w from (hd.at_ (G := fun u W => Rd W u (bytesV n1) ∧ Rdr W g l1 x1 ∧ ∀ b, u.ownBlock = some b → b ≠ w1.heap.size) 4 rfl rfl rfl rfl).1), rfl⟩) ?_
              refine Walk.val (G := Is (.slice A3 (bytesV n1).length c3)) (stays_is _ _) rfl rfl (fun a w hm hd => ⟨wanted_plain rfl, _, ex_move rfl, by rw [hm.outer 13 (by kernel_rfl)]; exact rfl⟩) ?_
              refine Walk.val (G := Is (.string ⟨n1.toArray⟩)) (stays_is _ _) rfl rfl (fun a w hm hd => ⟨wanted_plain rfl, _, ex_conv rfl (show IsB n1 _ w from ?_), rfl⟩) ?_
              · have h0 : a.eval (.tmp 69) = .slice A3 (bytesV n1).length c3 := hd.at_ 6 rfl rfl rfl rfl
                rw [h0]
                refine Rd.keepNe (w := W1) HK.out.2.2.2.2.2.2 fun hne b' hb' hlt' => ?_
                have hlo := HV.low (by rw [Ne, ← List.length_eq_zero_iff, bytesV_len, List.length_eq_zero_iff]; exact ne_of_len (by have := HM.out; omega : n1.length ≤ b.length) (bytesV_ne hne)) b' (hown b' (hbu2 b' hb'))
                exact hm.grow.block b' hlt' (by simp; have := HGW.out; omega)
              refine Walk.val (G := Is (.bool true)) (stays_is _ _) rfl rfl (fun a w hm hd => ⟨wanted_plain rfl, _, ex_eqs rfl (hd.at_ 5 rfl rfl rfl rfl) (hd.at_ 7 rfl rfl rfl rfl), rfl⟩) ?_
              refine Walk.store (G := fun W => W.heap[w1.heap.size]? = some (.cells #[.slice A2 (bytesV l1).length c2, .int .i64 x1] 37 (0, 0))) (stays_own (dis_two hgp) (k := 9) (b := w1.heap.size) rfl (fun v w w' h hg => (hg.block _ (lt_blk h) (by simp)).trans h) (fun q hq hne v w w' h hg => (hg.block _ (lt_blk h) (fun e => hne (by injection e with e; exact e.symm))).trans h)) rfl (fun a w hm ha hd => ⟨wanted_plain rfl, _, ex_storeSt rfl rfl (show Is (.pointer (some ⟨w1.heap.size, 0, none⟩)) _ w by rw [hm.outer 6 (by kernel_rfl)]; exact rfl) (hd.at_ 0 rfl rfl rfl rfl) ((ha w1.heap.size rfl (show w1.heap.size < W1.heap.size by omega)).trans HK.out.2.2.1), grown_trans2 (grown_set _ _ _ _) (grown_set _ _ _ _), by rw [row_set (row_set ((ha w1.heap.size rfl (show w1.heap.size < W1.heap.size by omega)).trans HK.out.2.2.1) 0 _) 1 _]; rfl⟩) ?_
              refine Walk.val (G := Is (.bool true)) (stays_is _ _) rfl rfl (fun a w hm hd => ⟨wanted_plain rfl, _, ex_assign rfl, hd.at_ 8 rfl rfl rfl rfl⟩) ?_
              intro a w3 hm hall
              have f0 : a.eval (.tmp 63) = _ := hall 0 _ _ rfl rfl
              have f1 : a.eval (.tmp 64) = _ := hall 1 _ _ rfl rfl
              have f2 : a.eval (.tmp 65) = _ := hall 2 _ _ rfl rfl
              have f3 : a.eval (.tmp 66) = _ := hall 3 _ _ rfl rfl
              have f4 := hall 4 _ _ rfl rfl
              have f5 : a.eval (.tmp 68) = _ := hall 5 _ _ rfl rfl
              have f6 : a.eval (.tmp 69) = _ := hall 6 _ _ rfl rfl
              have f7 : a.eval (.tmp 70) = _ := hall 7 _ _ rfl rfl
              have f8 : a.eval (.tmp 71) = _ := hall 8 _ _ rfl rfl
              have f9 : w3.heap[w1.heap.size]? = _ := hall 9 _ _ rfl rfl
              have f10 : a.eval (.tmp 9) = _ := hall 10 _ _ rfl rfl
              have hfr := hm.frame
              simp only [List.take_succ_cons, List.take_zero, List.filterMap_cons, List.filterMap_nil, List.foldl_cons, List.foldl_nil, f0, f1, f2, f3, f5, f6, f7, f8, f10] at hfr
              have hrd3 : Rdr w3 g l1 x1 := f4.2.1
              generalize a.eval (.tmp 67) = y67 at hfr
              have hgr3 : w.grownBy w3 none := grown_newX (w1 := W1.drew) (grown_drew HK.out.2.2.2.2.2.1) hm.grow (fun b hb => by simp at hb; have := HGW.out; omega)
              have hrv3 : Rd w3 (.slice A2 (bytesV l1).length c2) (bytesV l1) := by
                refine Rd.keepNe (w := W1) HK.out.2.2.2.2.1 fun hne b' hb' hlt' => ?_
                have hlo := HV.low (by rw [Ne, ← List.length_eq_zero_iff, bytesV_len, List.length_eq_zero_iff]; exact ne_of_len (by have := HM.out; omega : l1.length ≤ b.length) (bytesV_ne hne)) b' (hown b' (hb2 b' hb'))
                exact hm.grow.block b' hlt' (by simp; have := HGW.out; omega)
              have hSF : St w w3 (.slice A m c) g w1.heap.size m l1 x1 := ⟨_, f9, hrv3, fun b' hb' => hown b' (hb2 b' hb'), by omega, hrd3, hgr3⟩
              clear HS
              have HS := Lib.hid hSF
              clear hSF hrv3 hrd3 hgr3 hall f0 f1 f2 f3 f4 f5 f6 f7 f8 f9 f10 hm
              rw [hfr]
              clear hfr
              go_wp2_with fail
              generalize w3 = W at *
              obtain ⟨v9, hp9, hrv9, hown9, hlm9, hrd9, hgr9⟩ := HS.out
              have hE9 : Hid (∀ k, Calls Try.prog 28 #[.pointer (some ⟨g, 0, none⟩)] (W.drewN k) fun e w' => e = .returned (.int .i64 x1) ∧ w' = W.drewN k) := fun k => (err_at g l1 x1 (W.drewN k) hrd9).mono fun _ _ ⟨a, b⟩ => ⟨a, b.symm⟩
              have hcx : W.cell? ⟨w1.heap.size, 1, none⟩ = some (.int .i64 x1) := by rw [cell_blk hp9]; rfl
              clear hp9 hrv9 hown9 hrd9
              go_quiet ((go_at_call 28; exact Calls.quiet_of_same (hE9.out _)))
              go_wp2
              exact ⟨⟨j + 1, l1, x1, by omega, by go_num, HS.out.drewN _⟩, by simp [intOf]; omega⟩
            · by_cases h2 : vb = 2
              · subst h2
                have hga : wr.grownBy (wr.alloc (.cells #[.int .i64 2, .int .i64 N] 39)) none := grown_alloc (grown_refl _ _) _
                have hq0 : (wr.alloc (.cells #[.int .i64 2, .int .i64 N] 39)).heap[wr.heap.size]? = some (.cells #[.int .i64 2, .int .i64 N] 39 (0, 0)) := heap_alloc_new _ _
                have hq1 : wr.heap.size < (wr.alloc (.cells #[.int .i64 2, .int .i64 N] 39)).heap.size := by simp
                have hS : St w (wr.alloc (.cells #[.int .i64 2, .int .i64 N] 39)) (.slice A m c) g w1.heap.size m l x :=
                  ⟨.slice A1 (bytesV l).length c1, (hga.block _ hplt (by simp)).trans HP.out, hrv.grown0 hga, hown, hlm, hrd.grown hga (fun _ h => by cases h), hgr.trans hga⟩
                have HS := Lib.hid hS
                have HGA := Lib.hid hga
                have HQ0 := Lib.hid hq0
                clear hS hga hq0
                have hlen1 := fixOf_len l x N
                have HREF := refReadFixed_any (.slice A1 (bytesV l).length c1) l x N _ (hrv.grown0 HGA.out)
                have HRD : Hid (∀ W3, Rdr W3 g l x → Calls Try.prog 23 #[.pointer (some ⟨g, 0, none⟩), .int .i64 N] W3 (RdrOut W3 g (.int .u64 (fixOf l x N).1) (fixOf l x N).2.1 (fixOf l x N).2.2)) := fun W3 hrdW => rfix_at g l x N W3 hrdW
                generalize fixOf l x N = pq at *
                obtain ⟨n1, l1, x1⟩ := pq
                simp only at hlen1 HREF HRD
                have HR0 := Lib.hid HREF
                clear HREF
                go_wp2_with fail
                refine HR0.out.mono ?_
                rintro e w2 ⟨v2, rfl, hr2, hb2, hg2⟩
                have HR2 := hr2
                obtain ⟨A2, c2, rfl⟩ := hr2.form
                have hga2 : w2.grownBy (w2.alloc (.cells #[.slice A2 (bytesV l1).length c2, .int .i64 x1] 37)) none := grown_alloc (grown_refl _ _) _
                have hgB := hg2.trans hga2
                have hr2b : (w2.alloc (.cells #[.slice A2 (bytesV l1).length c2, .int .i64 x1] 37)).heap[w2.heap.size]? = some (.cells #[.slice A2 (bytesV l1).length c2, .int .i64 x1] 37 (0, 0)) := heap_alloc_new _ _
                have hlt2 : w2.heap.size < (w2.alloc (.cells #[.slice A2 (bytesV l1).length c2, .int .i64 x1] 37)).heap.size := by simp
                have hqB : (w2.alloc (.cells #[.slice A2 (bytesV l1).length c2, .int .i64 x1] 37)).heap[wr.heap.size]? = some (.cells #[.int .i64 2, .int .i64 N] 39 (0, 0)) := (hgB.block _ hq1 (by simp)).trans HQ0.out
                have hqlt : wr.heap.size < w2.heap.size := by have := hg2.size; omega
                obtain ⟨v9, hp9, hrv9, hown9, hlm9, hrd9, hgr9⟩ := HS.out
                have hpB : (w2.alloc (.cells #[.slice A2 (bytesV l1).length c2, .int .i64 x1] 37)).heap[w1.heap.size]? = some (.cells #[v9, .int .i64 x] 37 (0, 0)) := (hgB.block _ (by have := HGA.out.size; omega) (by simp)).trans hp9
                have hrdB := hrd9.grown hgB (fun _ h => by cases h)
                have hrvB := HR2.grown0 hga2
                skip
                have hgrB := hgr9.trans hgB
                have HK := Lib.hid (And.intro hr2b (And.intro hqB (And.intro hpB (And.intro hrdB (And.intro hrvB (And.intro hgrB trivial))))))
                clear hr2b hqB hpB hrdB hrvB hgrB hga2 hp9 hrv9 hrd9 hgr9 hgB
                go_wp2_with fail
                generalize w2.alloc (.cells #[.slice A2 (bytesV l1).length c2, .int .i64 x1] 37) = W1 at *
                refine wp_region_walk 9 [(4, g), (7, w1.heap.size)] (dis_two hgp) (by kernel_rfl) (by kernel_rfl) (by kernel_rfl) ?_
                simp only [List.take_succ_cons, List.take_zero, List.drop_succ_cons, List.drop_zero]
                refine Walk.val (G := Is (.agg #[.slice A2 (bytesV l1).length c2, .int .i64 x1])) (stays_is _ _) rfl rfl (fun a w hm hd => ⟨wanted_plain rfl, _, ex_loadSt rfl (show Is (.pointer (some ⟨w2.heap.size, 0, none⟩)) _ w by rw [hm.outer 14 (by kernel_rfl)]; exact rfl) ((hm.grow.block _ hlt2 (by simp; omega)).trans HK.out.1), rfl⟩) ?_
                refine Walk.val (G := Is (.pointer (some ⟨g, 0, none⟩))) (stays_is _ _) rfl rfl (fun a w hm hd => ⟨wanted_plain rfl, _, ex_move rfl, by rw [hm.outer 5 (by kernel_rfl)]; exact rfl⟩) ?_
                refine Walk.val (G := Is (.pointer (some ⟨wr.heap.size, 1, none⟩))) (stays_is _ _) rfl rfl (fun a w hm hd => ⟨wanted_plain rfl, _, ex_fieldN rfl (show Is (.pointer (some ⟨wr.heap.size, 0, none⟩)) _ w by rw [hm.outer 8 (by kernel_rfl)]; exact rfl), rfl⟩) ?_
                refine Walk.val (G := Is (.int .i64 N)) (stays_is _ _) rfl rfl (fun a w hm hd => ⟨wanted_plain rfl, _, ex_loadInt rfl (hd.at_ 2 rfl rfl rfl rfl) (by rw [cell_blk ((hm.grow.block _ (show wr.heap.size < W1.heap.size by omega) (by simp; omega)).trans HK.out.2.1)]; rfl), rfl⟩) ?_
                refine Walk.call (G := fun u W => u = .int .u64 n1 ∧ Rdr W g l1 x1) (stays_own (dis_two hgp) (k := 4) (b := g) rfl (fun _ _ _ h hg => ⟨h.1, h.2.grown hg (fun _ h => by cases h)⟩) (fun q hq hne v w w' h hg => ⟨h.1, h.2.grown hg (fun b hb => by injection hb with hb; simp at hq; omega)⟩)) rfl 23 rfl (fun a w hm ha hd => ⟨wanted_plain rfl, _, ex_call2 Try.func23 (by kernel_rfl) (by kernel_rfl) rfl, ?_⟩) ?_
                · have h0 : a.eval (.tmp 82) = .pointer (some ⟨g, 0, none⟩) := hd.at_ 1 rfl rfl rfl rfl
                  have h1 : a.eval (.tmp 84) = .int .i64 N := hd.at_ 3 rfl rfl rfl rfl
                  rw [h0, h1]
                  exact (HRD.out w (Rdr.keepX (w0 := W1.drew) HK.out.2.2.2.1 (ha g rfl (show g < W1.heap.size by omega)) (fun b hb hlt => hm.grow.block b hlt (by simp; omega)))).mono fun _ _ ⟨he, hr, hg⟩ => ⟨_, he, hg, rfl, hr⟩
                refine Walk.val (G := Is (.int .u64 n1)) (stays_is _ _) rfl rfl (fun a w hm hd => ⟨wanted_plain rfl, _, ex_move rfl, by rw [hm.outer 15 (by kernel_rfl)]; exact rfl⟩) ?_
                refine Walk.val (G := Is (.bool true)) (stays_is _ _) rfl rfl (fun a w hm hd => ⟨wanted_plain rfl, _, ex_eqi (p := n1) (q := n1) rfl (show Is (.int .u64 n1) _ w from (hd.at_ (G := fun u W => u = .int .u64 n1 ∧ Rdr W g l1 x1) 4 rfl rfl rfl rfl).1) (hd.at_ 5 rfl rfl rfl rfl), by simp [Is]⟩) ?_
                refine Walk.store (G := fun W => W.heap[w1.heap.size]? = some (.cells #[.slice A2 (bytesV l1).length c2, .int .i64 x1] 37 (0, 0))) (stays_own (dis_two hgp) (k := 7) (b := w1.heap.size) rfl (fun v w w' h hg => (hg.block _ (lt_blk h) (by simp)).trans h) (fun q hq hne v w w' h hg => (hg.block _ (lt_blk h) (fun e => hne (by injection e with e; exact e.symm))).trans h)) rfl (fun a w hm ha hd => ⟨wanted_plain rfl, _, ex_storeSt rfl rfl (show Is (.pointer (some ⟨w1.heap.size, 0, none⟩)) _ w by rw [hm.outer 6 (by kernel_rfl)]; exact rfl) (hd.at_ 0 rfl rfl rfl rfl) ((ha w1.heap.size rfl (show w1.heap.size < W1.heap.size by omega)).trans HK.out.2.2.1), grown_trans2 (grown_set _ _ _ _) (grown_set _ _ _ _), by rw [row_set (row_set ((ha w1.heap.size rfl (show w1.heap.size < W1.heap.size by omega)).trans HK.out.2.2.1) 0 _) 1 _]; rfl⟩) ?_
                refine Walk.val (G := Is (.bool true)) (stays_is _ _) rfl rfl (fun a w hm hd => ⟨wanted_plain rfl, _, ex_assign rfl, hd.at_ 6 rfl rfl rfl rfl⟩) ?_
                intro a w3 hm hall
                have f0 : a.eval (.tmp 81) = _ := hall 0 _ _ rfl rfl
                have f1 : a.eval (.tmp 82) = _ := hall 1 _ _ rfl rfl
                have f2 : a.eval (.tmp 83) = _ := hall 2 _ _ rfl rfl
                have f3 : a.eval (.tmp 84) = _ := hall 3 _ _ rfl rfl
                have f4 := hall 4 _ _ rfl rfl
                have f4a : a.eval (.tmp 85) = .int .u64 n1 := f4.1
                have f5 : a.eval (.tmp 86) = _ := hall 5 _ _ rfl rfl
                have f6 : a.eval (.tmp 87) = _ := hall 6 _ _ rfl rfl
                have f9 : w3.heap[w1.heap.size]? = _ := hall 7 _ _ rfl rfl
                have f10 : a.eval (.tmp 9) = _ := hall 8 _ _ rfl rfl
                have hfr := hm.frame
                simp only [List.take_succ_cons, List.take_zero, List.filterMap_cons, List.filterMap_nil, List.foldl_cons, List.foldl_nil, f0, f1, f2, f3, f4a, f5, f6, f10] at hfr
                have hrd3 : Rdr w3 g l1 x1 := f4.2
                have hgr3 : w.grownBy w3 none := grown_newX (w1 := W1.drew) (grown_drew HK.out.2.2.2.2.2.1) hm.grow (fun b hb => by simp at hb; have := HGW.out; omega)
                have hrv3 : Rd w3 (.slice A2 (bytesV l1).length c2) (bytesV l1) := by
                  refine Rd.keepNe (w := W1) HK.out.2.2.2.2.1 fun hne b' hb' hlt' => ?_
                  have hlo := HV.low (by rw [Ne, ← List.length_eq_zero_iff, bytesV_len, List.length_eq_zero_iff]; exact ne_of_len (by have := HM.out; omega : l1.length ≤ b.length) (bytesV_ne hne)) b' (hown b' (hb2 b' hb'))
                  exact hm.grow.block b' hlt' (by simp; have := HGW.out; omega)
                have hSF : St w w3 (.slice A m c) g w1.heap.size m l1 x1 := ⟨_, f9, hrv3, fun b' hb' => hown b' (hb2 b' hb'), by omega, hrd3, hgr3⟩
                clear HS
                have HS := Lib.hid hSF
                clear hSF hrv3 hrd3 hgr3 hall f0 f1 f2 f3 f4 f4a f5 f6 f9 f10 hm
                rw [hfr]
                clear hfr
                go_wp2_with fail
                generalize w3 = W at *
                obtain ⟨v9, hp9, hrv9, hown9, hlm9, hrd9, hgr9⟩ := HS.out
                have hE9 : Hid (∀ k, Calls Try.prog 28 #[.pointer (some ⟨g, 0, none⟩)] (W.drewN k) fun e w' => e = .returned (.int .i64 x1) ∧ w' = W.drewN k) := fun k => (err_at g l1 x1 (W.drewN k) hrd9).mono fun _ _ ⟨a, b⟩ => ⟨a, b.symm⟩
                have hcx : W.cell? ⟨w1.heap.size, 1, none⟩ = some (.int .i64 x1) := by rw [cell_blk hp9]; rfl
                clear hp9 hrv9 hown9 hrd9
                go_quiet ((go_at_call 28; exact Calls.quiet_of_same (hE9.out _)))
                go_wp2
                exact ⟨⟨j + 1, l1, x1, by omega, by go_num, HS.out.drewN _⟩, by simp [intOf]; omega⟩
              · by_cases h3 : vb = 3
                · subst h3
                  have hga : wr.grownBy (wr.alloc (.cells #[.int .i64 3, .int .i64 N] 39)) none := grown_alloc (grown_refl _ _) _
                  have hq0 : (wr.alloc (.cells #[.int .i64 3, .int .i64 N] 39)).heap[wr.heap.size]? = some (.cells #[.int .i64 3, .int .i64 N] 39 (0, 0)) := heap_alloc_new _ _
                  have hq1 : wr.heap.size < (wr.alloc (.cells #[.int .i64 3, .int .i64 N] 39)).heap.size := by simp
                  have hS : St w (wr.alloc (.cells #[.int .i64 3, .int .i64 N] 39)) (.slice A m c) g w1.heap.size m l x :=
                    ⟨.slice A1 (bytesV l).length c1, (hga.block _ hplt (by simp)).trans HP.out, hrv.grown0 hga, hown, hlm, hrd.grown hga (fun _ h => by cases h), hgr.trans hga⟩
                  have HS := Lib.hid hS
                  have HGA := Lib.hid hga
                  have HQ0 := Lib.hid hq0
                  clear hS hga hq0
                  obtain ⟨v9, hp9, hrv9, hown9, hlm9, hrd9, hgr9⟩ := HS.out
                  obtain ⟨A9, c9, rfl⟩ := hrv9.form
                  have HK := Lib.hid (And.intro hp9 (And.intro hrv9 (And.intro hrd9 hgr9)))
                  have hplt0 : w1.heap.size < (wr.alloc (.cells #[.int .i64 3, .int .i64 N] 39)).heap.size := by simp; omega
                  clear hp9 hrv9 hrd9 hgr9
                  go_wp2_with fail
                  generalize wr.alloc (.cells #[.int .i64 3, .int .i64 N] 39) = W1 at *
                  refine wp_region_walk 6 [] dis_nil (by kernel_rfl) (by kernel_rfl) (by kernel_rfl) ?_
                  simp only [List.take_succ_cons, List.take_zero, List.drop_succ_cons, List.drop_zero]
                  refine Walk.val (G := Is (.pointer (some ⟨g, 0, none⟩))) (stays_is _ _) rfl rfl (fun a w hm hd => ⟨wanted_plain rfl, _, ex_move rfl, by rw [hm.outer 5 (by kernel_rfl)]; exact rfl⟩) ?_
                  refine Walk.call (G := Is (.int .i64 (endOf l x))) (stays_is _ _) rfl 24 rfl (fun a w hm ha hd => ⟨wanted_plain rfl, _, ex_call1 Try.func24 (by kernel_rfl) (by kernel_rfl) rfl, ?_⟩) ?_
                  · have h0 : a.eval (.tmp 90) = .pointer (some ⟨g, 0, none⟩) := hd.at_ 0 rfl rfl rfl rfl
                    rw [h0]
                    exact (end_at g l x w (Rdr.grown (w := W1.drew) HK.out.2.2.1 hm.grow.none (fun _ h => by cases h))).mono fun _ _ ⟨he, hw⟩ => ⟨_, he, by rw [← hw]; exact grown_refl _ _, rfl⟩
                  refine Walk.val (G := Is (.agg #[.slice A9 (bytesV l).length c9, .int .i64 x])) (stays_is _ _) rfl rfl (fun a w hm hd => ⟨wanted_plain rfl, _, ex_loadSt rfl (show Is (.pointer (some ⟨w1.heap.size, 0, none⟩)) _ w by rw [hm.outer 6 (by kernel_rfl)]; exact rfl) ((hm.grow.block _ hplt0 (by simp)).trans HK.out.1), rfl⟩) ?_
                  refine Walk.call (G := Is (.int .i64 (endOf l x))) (stays_is _ _) rfl 25 rfl (fun a w hm ha hd => ⟨wanted_plain rfl, _, ex_call1 Try.func25 (by kernel_rfl) (by kernel_rfl) rfl, ?_⟩) ?_
                  · have h0 : a.eval (.tmp 92) = .agg #[.slice A9 (bytesV l).length c9, .int .i64 x] := hd.at_ 2 rfl rfl rfl rfl
                    rw [h0]
                    exact (refEnd_any _ l x w (Rd.grown0 (w := W1.drew) HK.out.2.1 hm.grow.none)).mono fun _ _ ⟨he, hw⟩ => ⟨_, he, hw, rfl⟩
                  refine Walk.val (G := Is (.bool true)) (stays_is _ _) rfl rfl (fun a w hm hd => ⟨wanted_plain rfl, _, ex_eqi (p := endOf l x) (q := endOf l x) rfl (hd.at_ 1 rfl rfl rfl rfl) (hd.at_ 3 rfl rfl rfl rfl), by simp [Is]⟩) ?_
                  refine Walk.val (G := Is (.bool true)) (stays_is _ _) rfl rfl (fun a w hm hd => ⟨wanted_plain rfl, _, ex_assign rfl, hd.at_ 4 rfl rfl rfl rfl⟩) ?_
                  intro a w3 hm hall
                  have f0 : a.eval (.tmp 90) = _ := hall 0 _ _ rfl rfl
                  have f1 : a.eval (.tmp 91) = _ := hall 1 _ _ rfl rfl
                  have f2 : a.eval (.tmp 92) = _ := hall 2 _ _ rfl rfl
                  have f3 : a.eval (.tmp 93) = _ := hall 3 _ _ rfl rfl
                  have f4 : a.eval (.tmp 94) = _ := hall 4 _ _ rfl rfl
                  have f5 : a.eval (.tmp 9) = _ := hall 5 _ _ rfl rfl
                  have hfr := hm.frame
                  simp only [List.take_succ_cons, List.take_zero, List.filterMap_cons, List.filterMap_nil, List.foldl_cons, List.foldl_nil, f0, f1, f2, f3, f4, f5] at hfr
                  have hSF : St w w3 (.slice A m c) g w1.heap.size m l x := ⟨_, (hm.grow.block _ hplt0 (by simp)).trans HK.out.1, Rd.grown0 (w := W1.drew) HK.out.2.1 hm.grow.none, hown9, hlm9, Rdr.grown (w := W1.drew) HK.out.2.2.1 hm.grow.none (fun _ h => by cases h), (grown_drew HK.out.2.2.2).trans hm.grow.none⟩
                  clear HS
                  have HS := Lib.hid hSF
                  clear hSF hall f0 f1 f2 f3 f4 f5 hm hown9 hlm9
                  rw [hfr]
                  clear hfr
                  go_wp2_with fail
                  generalize w3 = W at *
                  obtain ⟨v9, hp9, hrv9, hown9, hlm9, hrd9, hgr9⟩ := HS.out
                  have hE9 : Hid (∀ k, Calls Try.prog 28 #[.pointer (some ⟨g, 0, none⟩)] (W.drewN k) fun e w' => e = .returned (.int .i64 x) ∧ w' = W.drewN k) := fun k => (err_at g l x (W.drewN k) hrd9).mono fun _ _ ⟨a, b⟩ => ⟨a, b.symm⟩
                  have hcx : W.cell? ⟨w1.heap.size, 1, none⟩ = some (.int .i64 x) := by rw [cell_blk hp9]; rfl
                  clear hp9 hrv9 hown9 hrd9
                  go_quiet ((go_at_call 28; exact Calls.quiet_of_same (hE9.out _)))
                  go_wp2
                  exact ⟨⟨j + 1, l, x, by omega, by go_num, HS.out.drewN _⟩, by simp [intOf]; omega⟩
                · by_cases h4 : vb = 4
                  · subst h4
                    have hga : wr.grownBy (wr.alloc (.cells #[.int .i64 4, .int .i64 N] 39)) none := grown_alloc (grown_refl _ _) _
                    have hq0 : (wr.alloc (.cells #[.int .i64 4, .int .i64 N] 39)).heap[wr.heap.size]? = some (.cells #[.int .i64 4, .int .i64 N] 39 (0, 0)) := heap_alloc_new _ _
                    have hq1 : wr.heap.size < (wr.alloc (.cells #[.int .i64 4, .int .i64 N] 39)).heap.size := by simp
                    have hS : St w (wr.alloc (.cells #[.int .i64 4, .int .i64 N] 39)) (.slice A m c) g w1.heap.size m l x :=
                      ⟨.slice A1 (bytesV l).length c1, (hga.block _ hplt (by simp)).trans HP.out, hrv.grown0 hga, hown, hlm, hrd.grown hga (fun _ h => by cases h), hgr.trans hga⟩
                    have HS := Lib.hid hS
                    have HGA := Lib.hid hga
                    have HQ0 := Lib.hid hq0
                    clear hS hga hq0
                    obtain ⟨v9, hp9, hrv9, hown9, hlm9, hrd9, hgr9⟩ := HS.out
                    have HLF := Lib.hid (left_at g l x _ hrd9)
                    clear hp9 hrv9 hown9 hlm9 hrd9 hgr9
                    by_cases hx0 : x = 0
                    · subst hx0
                      have hlo : leftOf l 0 = l.length := by unfold leftOf; rw [if_pos rfl]
                      rw [hlo, ← bytesV_len l] at HLF
                      clear hlo
                      go_wp2_with (go_at_call 26; refine HLF.out.mono ?_; rintro e w5 ⟨rfl, rfl⟩)
                      generalize wr.alloc (.cells #[.int .i64 4, .int .i64 N] 39) = W at *
                      obtain ⟨v9, hp9, hrv9, hown9, hlm9, hrd9, hgr9⟩ := HS.out
                      have hE9 : Hid (∀ k, Calls Try.prog 28 #[.pointer (some ⟨g, 0, none⟩)] (W.drewN k) fun e w' => e = .returned (.int .i64 0) ∧ w' = W.drewN k) := fun k => (err_at g l 0 (W.drewN k) hrd9).mono fun _ _ ⟨a, b⟩ => ⟨a, b.symm⟩
                      have hcx : W.cell? ⟨w1.heap.size, 1, none⟩ = some (.int .i64 0) := by rw [cell_blk hp9]; rfl
                      clear hp9 hrv9 hown9 hrd9
                      go_quiet ((go_at_call 28; exact Calls.quiet_of_same (hE9.out _)))
                      go_wp2
                      exact ⟨⟨j + 1, l, 0, by omega, by go_num, HS.out.drewN _⟩, by simp [intOf]; omega⟩
                    · have hlo : leftOf l x = 0 := by unfold leftOf; rw [if_neg hx0]
                      rw [hlo] at HLF
                      clear hlo
                      have hx1 : (x != 0) = true := by simpa using hx0
                      go_wp2_with (go_at_call 26; refine HLF.out.mono ?_; rintro e w5 ⟨rfl, rfl⟩)
                      generalize wr.alloc (.cells #[.int .i64 4, .int .i64 N] 39) = W at *
                      obtain ⟨v9, hp9, hrv9, hown9, hlm9, hrd9, hgr9⟩ := HS.out
                      have hE9 : Hid (∀ k, Calls Try.prog 28 #[.pointer (some ⟨g, 0, none⟩)] (W.drewN k) fun e w' => e = .returned (.int .i64 x) ∧ w' = W.drewN k) := fun k => (err_at g l x (W.drewN k) hrd9).mono fun _ _ ⟨a, b⟩ => ⟨a, b.symm⟩
                      have hcx : W.cell? ⟨w1.heap.size, 1, none⟩ = some (.int .i64 x) := by rw [cell_blk hp9]; rfl
                      clear hp9 hrv9 hown9 hrd9
                      go_quiet ((go_at_call 28; exact Calls.quiet_of_same (hE9.out _)))
                      go_wp2
                      exact ⟨⟨j + 1, l, x, by omega, by go_num, HS.out.drewN _⟩, by simp [intOf]; omega⟩
                  · by_cases h5 : vb = 5
                    · subst h5
                      have hga : wr.grownBy (wr.alloc (.cells #[.int .i64 5, .int .i64 N] 39)) none := grown_alloc (grown_refl _ _) _
                      have hq0 : (wr.alloc (.cells #[.int .i64 5, .int .i64 N] 39)).heap[wr.heap.size]? = some (.cells #[.int .i64 5, .int .i64 N] 39 (0, 0)) := heap_alloc_new _ _
                      have hq1 : wr.heap.size < (wr.alloc (.cells #[.int .i64 5, .int .i64 N] 39)).heap.size := by simp
                      have hS : St w (wr.alloc (.cells #[.int .i64 5, .int .i64 N] 39)) (.slice A m c) g w1.heap.size m l x :=
                        ⟨.slice A1 (bytesV l).length c1, (hga.block _ hplt (by simp)).trans HP.out, hrv.grown0 hga, hown, hlm, hrd.grown hga (fun _ h => by cases h), hgr.trans hga⟩
                      have HS := Lib.hid hS
                      have HGA := Lib.hid hga
                      have HQ0 := Lib.hid hq0
                      clear hS hga hq0
                      by_cases hx0 : x = 0
                      · subst hx0
                        have hK1 : ((wr.setCell ⟨w1.heap.size, 1, none⟩ (.int .i64 N)).alloc (.cells #[.int .i64 5, .int .i64 N] 39)).heap[w1.heap.size]? = some (.cells #[.slice A1 (bytesV l).length c1, .int .i64 N] 37 (0, 0)) ∧ Rd ((wr.setCell ⟨w1.heap.size, 1, none⟩ (.int .i64 N)).alloc (.cells #[.int .i64 5, .int .i64 N] 39)) (.slice A1 (bytesV l).length c1) (bytesV l) ∧ Rdr ((wr.setCell ⟨w1.heap.size, 1, none⟩ (.int .i64 N)).alloc (.cells #[.int .i64 5, .int .i64 N] 39)) g l 0 ∧ w.grownBy ((wr.setCell ⟨w1.heap.size, 1, none⟩ (.int .i64 N)).alloc (.cells #[.int .i64 5, .int .i64 N] 39)) none ∧ w1.heap.size < ((wr.setCell ⟨w1.heap.size, 1, none⟩ (.int .i64 N)).alloc (.cells #[.int .i64 5, .int .i64 N] 39)).heap.size := by
                          have g1 := grown_set wr w1.heap.size 1 (.int .i64 N)
                          have g2 : (wr.setCell ⟨w1.heap.size, 1, none⟩ (.int .i64 N)).grownBy ((wr.setCell ⟨w1.heap.size, 1, none⟩ (.int .i64 N)).alloc (.cells #[.int .i64 5, .int .i64 N] 39)) none := grown_alloc (grown_refl _ _) _
                          have hsz : w1.heap.size < (wr.setCell ⟨w1.heap.size, 1, none⟩ (.int .i64 N)).heap.size := by simp [World.setCell]; omega
                          refine ⟨?_, ?_, ?_, ?_, ?_⟩
                          · rw [g2.block _ hsz (by simp), row_set HP.out 1 _]; rfl
                          · refine Rd.grown0 (hrv.keepNe fun hne b' hb' _ => ?_) g2
                            have hlo := HV.low (by rw [Ne, ← List.length_eq_zero_iff, bytesV_len, List.length_eq_zero_iff]; exact ne_of_len (by have := HM.out; omega : l.length ≤ b.length) (bytesV_ne hne)) b' (hown b' hb')
                            exact Below.heap_setCell _ _ _ _ (by simp; have := HGW.out; omega)
                          · exact (hrd.grown g1 (fun b hb => by injection hb with hb; omega)).grown g2 (fun _ h => by cases h)
                          · exact (grown_new hgr g1 (fun b hb => by injection hb with hb; have := HGW.out; omega)).trans g2
                          · exact Nat.lt_of_lt_of_le hsz g2.size
                        have HK := Lib.hid hK1
                        have HF := Lib.hid (fail_at g l 0 N _ hK1.2.2.1)
                        clear hK1
                        go_wp2_with fail
                        refine HF.out.mono ?_
                        clear HF
                        generalize (wr.setCell ⟨w1.heap.size, 1, none⟩ (.int .i64 N)).alloc (.cells #[.int .i64 5, .int .i64 N] 39) = W1 at *
                        rintro e w3 ⟨rfl, hrd3, hg3⟩
                        have hSF : St w w3 (.slice A m c) g w1.heap.size m l N := by
                          obtain ⟨k1, k2, k3, k4, k5⟩ := HK.out
                          refine ⟨_, (hg3.block _ k5 (fun e => hgp (by injection e with e; exact e.symm))).trans k1, ?_, hown, hlm, hrd3, grown_new k4 hg3 (fun b hb => by injection hb with hb; have := HGW.out; omega)⟩
                          refine k2.keepNe fun hne b' hb' hlt' => ?_
                          have hlo := HV.low (by rw [Ne, ← List.length_eq_zero_iff, bytesV_len, List.length_eq_zero_iff]; exact ne_of_len (by have := HM.out; omega : l.length ≤ b.length) (bytesV_ne hne)) b' (hown b' hb')
                          exact hg3.block b' hlt' (fun e => by injection e with e; have := HGW.out; omega)
                        clear HS
                        have HS := Lib.hid hSF
                        clear hSF hrd3 hg3
                        go_wp2_with fail
                        generalize w3 = W at *
                        obtain ⟨v9, hp9, hrv9, hown9, hlm9, hrd9, hgr9⟩ := HS.out
                        have hE9 : Hid (∀ k, Calls Try.prog 28 #[.pointer (some ⟨g, 0, none⟩)] (W.drewN k) fun e w' => e = .returned (.int .i64 N) ∧ w' = W.drewN k) := fun k => (err_at g l N (W.drewN k) hrd9).mono fun _ _ ⟨a, b⟩ => ⟨a, b.symm⟩
                        have hcx : W.cell? ⟨w1.heap.size, 1, none⟩ = some (.int .i64 N) := by rw [cell_blk hp9]; rfl
                        clear hp9 hrv9 hown9 hrd9
                        go_quiet ((go_at_call 28; exact Calls.quiet_of_same (hE9.out _)))
                        go_wp2
                        exact ⟨⟨j + 1, l, N, by omega, by go_num, HS.out.drewN _⟩, by simp [intOf]; omega⟩
                      · have hx1 : (x == 0) = false := by simpa using hx0
                        have hK1 : (wr.alloc (.cells #[.int .i64 5, .int .i64 N] 39)).heap[w1.heap.size]? = some (.cells #[.slice A1 (bytesV l).length c1, .int .i64 x] 37 (0, 0)) ∧ Rd (wr.alloc (.cells #[.int .i64 5, .int .i64 N] 39)) (.slice A1 (bytesV l).length c1) (bytesV l) ∧ Rdr (wr.alloc (.cells #[.int .i64 5, .int .i64 N] 39)) g l x ∧ w.grownBy (wr.alloc (.cells #[.int .i64 5, .int .i64 N] 39)) none ∧ w1.heap.size < (wr.alloc (.cells #[.int .i64 5, .int .i64 N] 39)).heap.size := ⟨(HGA.out.block _ hplt (by simp)).trans HP.out, hrv.grown0 HGA.out, hrd.grown HGA.out (fun _ h => by cases h), hgr.trans HGA.out, Nat.lt_of_lt_of_le hplt HGA.out.size⟩
                        have HK := Lib.hid hK1
                        have HF := Lib.hid (fail_at g l x N _ hK1.2.2.1)
                        clear hK1
                        go_wp2_with fail
                        refine HF.out.mono ?_
                        clear HF
                        generalize wr.alloc (.cells #[.int .i64 5, .int .i64 N] 39) = W1 at *
                        rintro e w3 ⟨rfl, hrd3, hg3⟩
                        rw [show failOf x N = x by unfold failOf; rw [if_neg hx0]] at hrd3
                        have hSF : St w w3 (.slice A m c) g w1.heap.size m l x := by
                          obtain ⟨k1, k2, k3, k4, k5⟩ := HK.out
                          refine ⟨_, (hg3.block _ k5 (fun e => hgp (by injection e with e; exact e.symm))).trans k1, ?_, hown, hlm, hrd3, grown_new k4 hg3 (fun b hb => by injection hb with hb; have := HGW.out; omega)⟩
                          refine k2.keepNe fun hne b' hb' hlt' => ?_
                          have hlo := HV.low (by rw [Ne, ← List.length_eq_zero_iff, bytesV_len, List.length_eq_zero_iff]; exact ne_of_len (by have := HM.out; omega : l.length ≤ b.length) (bytesV_ne hne)) b' (hown b' hb')
                          exact hg3.block b' hlt' (fun e => by injection e with e; have := HGW.out; omega)
                        clear HS
                        have HS := Lib.hid hSF
                        clear hSF hrd3 hg3
                        go_wp2_with fail
                        generalize w3 = W at *
                        obtain ⟨v9, hp9, hrv9, hown9, hlm9, hrd9, hgr9⟩ := HS.out
                        have hE9 : Hid (∀ k, Calls Try.prog 28 #[.pointer (some ⟨g, 0, none⟩)] (W.drewN k) fun e w' => e = .returned (.int .i64 x) ∧ w' = W.drewN k) := fun k => (err_at g l x (W.drewN k) hrd9).mono fun _ _ ⟨a, b⟩ => ⟨a, b.symm⟩
                        have hcx : W.cell? ⟨w1.heap.size, 1, none⟩ = some (.int .i64 x) := by rw [cell_blk hp9]; rfl
                        clear hp9 hrv9 hown9 hrd9
                        go_quiet ((go_at_call 28; exact Calls.quiet_of_same (hE9.out _)))
                        go_wp2
                        exact ⟨⟨j + 1, l, x, by omega, by go_num, HS.out.drewN _⟩, by simp [intOf]; omega⟩
                    · have b0 : (vb == 0) = false := by simpa using h0
                      have b1 : (vb == 1) = false := by simpa using h1
                      have b2 : (vb == 2) = false := by simpa using h2
                      have b3 : (vb == 3) = false := by simpa using h3
                      have b4 : (vb == 4) = false := by simpa using h4
                      have b5 : (vb == 5) = false := by simpa using h5
                      clear h0 h1 h2 h3 h4 h5
                      have hga : wr.grownBy (wr.alloc (.cells #[.int .i64 vb, .int .i64 N] 39)) none := grown_alloc (grown_refl _ _) _
                      have hq0 : (wr.alloc (.cells #[.int .i64 vb, .int .i64 N] 39)).heap[wr.heap.size]? = some (.cells #[.int .i64 vb, .int .i64 N] 39 (0, 0)) := heap_alloc_new _ _
                      have hq1 : wr.heap.size < (wr.alloc (.cells #[.int .i64 vb, .int .i64 N] 39)).heap.size := by simp
                      have hS : St w (wr.alloc (.cells #[.int .i64 vb, .int .i64 N] 39)) (.slice A m c) g w1.heap.size m l x :=
                        ⟨.slice A1 (bytesV l).length c1, (hga.block _ hplt (by simp)).trans HP.out, hrv.grown0 hga, hown, hlm, hrd.grown hga (fun _ h => by cases h), hgr.trans hga⟩
                      have HS := Lib.hid hS
                      have HGA := Lib.hid hga
                      have HQ0 := Lib.hid hq0
                      clear hS hga hq0
                      go_wp2_with fail
                      generalize wr.alloc (.cells #[.int .i64 vb, .int .i64 N] 39) = W at *
                      obtain ⟨v9, hp9, hrv9, hown9, hlm9, hrd9, hgr9⟩ := HS.out
                      have hE9 : Hid (∀ k, Calls Try.prog 28 #[.pointer (some ⟨g, 0, none⟩)] (W.drewN k) fun e w' => e = .returned (.int .i64 x) ∧ w' = W.drewN k) := fun k => (err_at g l x (W.drewN k) hrd9).mono fun _ _ ⟨a, b⟩ => ⟨a, b.symm⟩
                      have hcx : W.cell? ⟨w1.heap.size, 1, none⟩ = some (.int .i64 x) := by rw [cell_blk hp9]; rfl
                      clear hp9 hrv9 hown9 hrd9
                      go_quiet ((go_at_call 28; exact Calls.quiet_of_same (hE9.out _)))
                      go_wp2
                      exact ⟨⟨j + 1, l, x, by omega, by go_num, HS.out.drewN _⟩, by simp [intOf]; omega⟩
        · clear hp hrv hown hlm hrd
          go_wp2_with fail
          refine (awake_any _).mono ?_
          rintro e w3 ⟨rfl, hg3⟩
          go_wp2
          go_ret
          exact ⟨rfl, hgr.trans hg3⟩
end Go.Proofs.Ytldambmhclgpoaa
