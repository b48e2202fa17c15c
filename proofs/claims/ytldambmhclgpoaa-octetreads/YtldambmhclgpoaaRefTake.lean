/-
  The document's own answers for layer 1: Take, ReadBytes, ReadFixed, End, over this program.
-/
import Derived.Test.YtldambmhclgpoaaRefRead
import Derived.RegionTactic
import Derived.BigRegion
namespace Go.Proofs.Ytldambmhclgpoaa
open Go.RowKit

/-- What a read of bytes answers: the state behind it, and the bytes. -/
def StBytes (w : World) (v : Value) (p : List UInt8 × List UInt8 × Int) (e : Ending) (w' : World) : Prop :=
  ∃ v' u, e = .returned (.tuple #[.agg #[v', .int .i64 p.2.2], u]) ∧ Rd w' v' (bytesV p.2.1) ∧ Rd w' u (bytesV p.1) ∧
    (∀ b, v'.ownBlock = some b → v.ownBlock = some b) ∧ (∀ b, u.ownBlock = some b → v.ownBlock = some b) ∧ w.grownBy w' none

theorem Rd.keepNe {w w' : World} {v : Value} {xs : List Value} (h : Rd w v xs)
    (hk : xs ≠ [] → ∀ b, v.ownBlock = some b → b < w.heap.size → w'.heap[b]? = w.heap[b]?) : Rd w' v xs := by
  by_cases hx : xs = []
  · subst hx
    obtain ⟨A, c, rfl, h1, h2, _⟩ := h
    exact ⟨A, c, rfl, h1, h2, fun h => absurd rfl h⟩
  · exact h.keep (hk hx)
theorem Rd.low {w : World} {v : Value} {xs : List Value} (h : Rd w v xs) (hne : xs ≠ []) : ∀ b, v.ownBlock = some b → b < w.heap.size := by
  intro b hb
  obtain ⟨A, c, rfl, h1, h2, h3⟩ := h
  obtain ⟨ad, rfl, hc⟩ := h3 hne
  obtain ⟨y, ys, rfl⟩ := List.exists_cons_of_ne_nil hne
  have h0 := hc 0 y (by simp)
  have := World.block_lt_of_cell? w _ h0
  rw [add_block] at this
  have e : ad.block = b := by simpa [Value.ownBlock] using hb
  omega
theorem bytesV_ne {l : List UInt8} (h : bytesV l ≠ []) : l ≠ [] := by rintro rfl; exact h rfl
theorem ne_of_len {l l' : List UInt8} (h : l'.length ≤ l.length) (hne : l' ≠ []) : l ≠ [] := by
  rintro rfl
  exact hne (List.eq_nil_of_length_eq_zero (by simpa using h))
theorem takeOf_len2 (l : List UInt8) (x : Int) (n : Nat) : (takeOf l x n).2.1.length ≤ l.length := by
  unfold takeOf
  split
  · split <;> simp
  · simp

set_option maxHeartbeats 2000000 in
theorem refTake_any (v : Value) (l : List UInt8) (x : Int) (n : Nat) (w : World) (hv : Rd w v (bytesV l)) :
    Calls Try.prog 38 #[.agg #[v, .int .i64 x], .int .i64 n] w (StBytes w v (takeOf l x n)) := by
  have HV := hv
  obtain ⟨A, c, rfl⟩ := hv.form
  rw [bytesV_len] at HV ⊢
  clear hv
  have hgg := grown_alloc (grown_alloc (grown_refl w none) (.cells #[.slice A l.length c, .int .i64 x] 37))
  by_cases hx : x = 0
  · subst hx
    obtain ⟨hl0, hlc, hcm⟩ := HV.len
    have hc63 : (c : Int) ≤ 9223372036854775807 := by simp only [maxLen] at hcm; omega
    have HCM : Hid (c ≤ maxLen) := hcm
    clear hcm hl0
    by_cases hn : n ≤ l.length
    · have hT : takeOf l 0 n = (l.take n, l.drop n, 0) := by unfold takeOf; rw [if_pos rfl, if_pos hn]
      rw [hT]
      clear hT
      generalize hm : l.length = m at *
      have HM := Lib.hid hm
      clear hm
      have HDR := Lib.hid (HV.drop (n := n) hn)
      have HTK := Lib.hid (HV.take (n := n) (d := c) hn (by omega) (Nat.le_refl _))
      have HDE : Hid (c = n → l.drop n = []) := fun h => List.drop_eq_nil_of_le (by rw [HM.out]; omega)
      have HNE : Hid (c = n → m - n = 0) := fun h => by omega
      have hnc : n ≤ c := by omega
      have HGG := Lib.hid hgg
      clear hgg
      go_enter Try.func38, Try.ntmps38
      go_wp2
      go_region
      all_goals go_wp2
      · refine bodyPost_ret (v := .tuple #[.agg #[.slice A (m - n) 0, .int .i64 0], .slice A n n]) (by simp [results, Try.results38, go_sem]) rfl ?_
        have hc : c = n := ‹_›
        have hD := HDE.out hc
        have hE := HNE.out hc
        have hT := HTK.out
        have hg : w.grownBy ((w.alloc (.cells #[.slice A m n, .int .i64 0] 37)).alloc (.cells #[.slice A (m - n) 0, .int .i64 0] 37)).drew none := grown_drew (grown_alloc (grown_alloc (grown_refl _ _) _) _)
        rw [hc] at hT
        refine ⟨_, _, rfl, ?_, ?_, fun b hb => by rw [← hb]; exact own_len _ _ _ _ _, fun b hb => by rw [← hb]; exact own_len _ _ _ _ _, hg⟩
        · rw [hE]
          show Rd _ _ (bytesV (l.drop n))
          rw [hD]
          exact Rd.empty _ _ _ (Nat.zero_le _)
        · show Rd _ _ (List.map byteV (l.take n))
          rw [List.map_take]
          exact hT.grown0 hg
      · refine bodyPost_ret (v := .tuple #[.agg #[.slice (A.map (fun x => x.add n)) (m - n) (c - n), .int .i64 0], .slice A n c]) (by simp [results, Try.results38, go_sem]) rfl ?_
        have hg : w.grownBy ((w.alloc (.cells #[.slice A m c, .int .i64 0] 37)).alloc (.cells #[.slice (A.map (fun x => x.add n)) (m - n) (c - n), .int .i64 0] 37)).drew none := grown_drew (grown_alloc (grown_alloc (grown_refl _ _) _) _)
        refine ⟨_, _, rfl, ?_, ?_, fun b hb => by rw [← hb]; exact (own_map _ _ _ _ _ _).symm, fun b hb => by rw [← hb]; exact own_len _ _ _ _ _, hg⟩
        · show Rd _ _ (List.map byteV (l.drop n))
          rw [List.map_drop]
          exact HDR.out.grown0 hg
        · show Rd _ _ (List.map byteV (l.take n))
          rw [List.map_take]
          exact HTK.out.grown0 hg
    · have hT : takeOf l 0 n = ([], l, 2) := by unfold takeOf; rw [if_pos rfl, if_neg hn]
      rw [hT]
      clear hT
      go_enter Try.func38, Try.ntmps38
      go_wp2
      refine bodyPost_ret (v := .tuple #[.agg #[.slice A l.length c, .int .i64 2], .slice none 0 0]) (by simp [results, Try.results38, go_sem]) rfl ?_
      exact ⟨_, _, rfl, HV.grown0 (hgg _), Rd.nil _, fun b hb => hb, (fun b hb => by cases hb), hgg _⟩
  · have hT : takeOf l x n = ([], l, x) := by unfold takeOf; rw [if_neg hx]
    rw [hT]
    clear hT
    have hx1 : (x != 0) = true := by simpa using hx
    go_enter Try.func38, Try.ntmps38
    go_wp2
    refine bodyPost_ret (v := .tuple #[.agg #[.slice A l.length c, .int .i64 x], .slice none 0 0]) (by simp [results, Try.results38, go_sem]) rfl ?_
    exact ⟨_, _, rfl, HV.grown0 (hgg _), Rd.nil _, fun b hb => hb, (fun b hb => by cases hb), hgg _⟩
theorem heap_second (w : World) (a b : Obj) : ((w.alloc a).alloc b).heap[w.heap.size + 1]? = some b := by
  have := heap_alloc_new (w.alloc a) b
  simpa using this

theorem cell_blk {w : World} {g i : Nat} {cs : Array Value} {t : TypeId} (h : w.heap[g]? = some (.cells cs t (0, 0))) : w.cell? ⟨g, i, none⟩ = cs[i]? := cell_of_row w g i cs t (0, 0) h
theorem froz_blk {w : World} {g i : Nat} {cs : Array Value} {t : TypeId} (h : w.heap[g]? = some (.cells cs t (0, 0))) : w.frozen? ⟨g, i, none⟩ = false := by
  simp [World.frozen?, h]
theorem grown_set2 {w w1 : World} (h : w.grownBy w1 none) {g : Nat} (hg : w.heap.size ≤ g) (i j : Nat) (u v : Value) : w.grownBy ((w1.setCell ⟨g, i, none⟩ u).setCell ⟨g, j, none⟩ v) none :=
  grown_new (grown_new h (grown_set _ _ _ _) (fun b hb => by injection hb; omega)) (grown_set _ _ _ _) (fun b hb => by injection hb; omega)

set_option maxHeartbeats 2000000 in
theorem refReadBytes_any (v : Value) (l : List UInt8) (x most : Int) (w : World) (hv : Rd w v (bytesV l)) (hl : l.length ≤ 140737488355328) :
    Calls Try.prog 20 #[.agg #[v, .int .i64 x], .int .i64 most] w (StBytes w v (rbytesOf l x most)) := by
  have HV := hv
  obtain ⟨A, c, rfl⟩ := hv.form
  rw [bytesV_len] at HV ⊢
  clear hv
  have hg0 : w.grownBy ((w.alloc (.cells #[.slice A l.length c, .int .i64 x] 37)).alloc (.cells #[.slice none 0 0, .int .i64 0] 37)) none := grown_alloc (grown_alloc (grown_refl _ _) _) _
  have HR := Lib.hid (refRead_any (.slice A l.length c) l x most _ (HV.grown0 hg0) hl)
  have HG0 := Lib.hid hg0
  clear hg0
  unfold rbytesOf
  have hL1 := numOf_len l x most
  generalize numOf l x most = p at *
  obtain ⟨n, l1, x1⟩ := p
  obtain ⟨⟨o, l2, x2⟩, hq⟩ : ∃ q, takeOf l1 x1 n = q := ⟨_, rfl⟩
  have hL2 := takeOf_len2 l1 x1 n
  have hL3 := takeOf_len l1 x1 n
  simp only at hL1
  rw [hq] at hL2 hL3 ⊢
  simp only at hL2 hL3
  have HQ := Lib.hid hq
  have HLL : Hid (l2.length ≤ l.length ∧ o.length ≤ l.length) := ⟨by omega, by omega⟩
  clear hq hL1 hL2 hL3
  go_enter Try.func20, Try.ntmps20
  go_wp2_with fail
  refine HR.out.mono ?_
  rintro e w1 ⟨v1, rfl, hr1, hb1, hg1⟩
  have hF : w.grownBy w1 none := HG0.out.trans hg1
  have hB1 : w1.heap[w.heap.size + 1]? = some (.cells #[.slice none 0 0, .int .i64 0] 37 (0, 0)) := by
    rw [hg1.block _ (by simp) (by simp)]
    exact heap_second _ _ _
  have hBlt : w.heap.size + 1 < w1.heap.size := by have := hg1.size; simp at this; omega
  have HR1 := hr1
  obtain ⟨A1, c1, rfl⟩ := hr1.form
  have hg2 : w1.grownBy (w1.alloc (.cells #[.slice A1 (bytesV l1).length c1, .int .i64 x1] 37)) none := grown_alloc (grown_refl _ _) _
  have HT0 := refTake_any (.slice A1 (bytesV l1).length c1) l1 x1 n _ (HR1.grown0 hg2)
  rw [HQ.out] at HT0
  have HT := Lib.hid HT0
  clear HT0
  have HG2 := Lib.hid hg2
  have HB1 := Lib.hid hB1
  clear hg2 hB1
  go_wp2_with fail
  refine HT.out.mono ?_
  rintro e w2 ⟨v2, u2, rfl, hr2, hu2, hb2, hbu, hg3⟩
  have hB2 : w2.heap[w.heap.size + 1]? = some (.cells #[.slice none 0 0, .int .i64 0] 37 (0, 0)) := by
    rw [hg3.block _ (by have := HG2.out.size; simp at this ⊢; omega) (by simp), HG2.out.block _ hBlt (by simp)]
    exact HB1.out
  have hc0 : w2.cell? ⟨w.heap.size + 1, 0, none⟩ = some (.slice none 0 0) := by rw [cell_blk hB2]; rfl
  have hc1 : w2.cell? ⟨w.heap.size + 1, 1, none⟩ = some (.int .i64 0) := by rw [cell_blk hB2]; rfl
  have hf0 : w2.frozen? ⟨w.heap.size + 1, 0, none⟩ = false := froz_blk hB2
  have hf1 : w2.frozen? ⟨w.heap.size + 1, 1, none⟩ = false := froz_blk hB2
  have HB2 := Lib.hid hB2
  clear hB2
  have HR2 := hr2
  have HU2 := hu2
  obtain ⟨A2, c2, rfl⟩ := hr2.form
  obtain ⟨A3, c3, rfl⟩ := hu2.form
  have hF2 : w.grownBy w2 none := (hF.trans HG2.out).trans hg3
  go_wp2
  refine bodyPost_ret (v := .tuple #[.agg #[.slice A2 (bytesV l2).length c2, .int .i64 x2], .slice A3 (bytesV o).length c3]) (by simp [results, Try.results20, go_sem, hc0, hc1]) rfl ?_
  have hgL := grown_set2 hF2 (g := w.heap.size + 1) (by omega) 0 1 (.slice A2 (bytesV l2).length c2) (.int .i64 x2)
  have hkeep : ∀ (v' : Value) (xs : List UInt8), (∀ b, v'.ownBlock = some b → (Value.slice A l.length c).ownBlock = some b) → xs.length ≤ l.length → Rd w2 v' (bytesV xs) → Rd ((w2.setCell ⟨w.heap.size + 1, 0, none⟩ (.slice A2 (bytesV l2).length c2)).setCell ⟨w.heap.size + 1, 1, none⟩ (.int .i64 x2)) v' (bytesV xs) := by
    intro v' xs hown hlen hR
    refine hR.keepNe fun hne b hb _ => ?_
    have hlo := HV.low (by rw [Ne, ← List.length_eq_zero_iff, bytesV_len, List.length_eq_zero_iff]; exact ne_of_len hlen (bytesV_ne hne)) b (hown b hb)
    rw [Below.heap_setCell _ _ _ _ (by simp; omega), Below.heap_setCell _ _ _ _ (by simp; omega)]
  refine ⟨_, _, rfl, hkeep _ _ ?_ HLL.out.1 HR2, hkeep _ _ ?_ HLL.out.2 HU2, ?_, ?_, hgL⟩
  all_goals intro b hb
  · exact hb1 b (hb2 b hb)
  · exact hb1 b (hbu b hb)
  · exact hb1 b (hb2 b hb)
  · exact hb1 b (hbu b hb)
end Go.Proofs.Ytldambmhclgpoaa
