/-
  (*message).add over this program: bytes more.
-/
import Derived.Test.YtmhcfbfdbminnaaDoorDigBlock
import Derived.Test.YtmhcfbfdbminnaaDoorReg2Base
import Derived.Test.YtmhcfbfdbminnaaDoorRowOps
import Derived.Deep.RegionLaw
namespace Go.Proofs.YtmhcfbfdbminnaaDoor
open Go.RowKit

/-- Whole blocks of a row, and the beginning of the next one. -/
theorem runB_split (s : List W32) (l : List UInt8) : runB s l = runB s (l.take (l.length - l.length % 64)) := by
  have h := runB_append s (l.take (l.length - l.length % 64)) (l.drop (l.length - l.length % 64)) (by rw [List.length_take]; omega)
  rw [List.take_append_drop] at h
  rw [h, runB_small _ _ (by rw [List.length_drop]; omega)]
theorem runB_more (s : List W32) (l c : List UInt8) : runB s (l ++ c) = runB (runB s l) (l.drop (l.length - l.length % 64) ++ c) := by
  rw [runB_split s l, ← runB_append _ _ _ (by rw [List.length_take]; omega), ← List.append_assoc, List.take_append_drop]

/-- The beginning of the next block. -/
def Begun (bl l : List UInt8) : Prop := bl.length = 64 ∧ bl.take (l.length % 64) = l.drop (l.length - l.length % 64)
/-- Of a message so far: all there is in its block. -/
def Msg (w : World) (g : Nat) (l : List UInt8) : Prop :=
  ∃ bl, Begun bl l ∧ Row w g 47 (wordsV (runB start l) ++ bytesV bl ++ [.int .i64 (l.length : Int)])
theorem Msg.grown {w w' : World} {g : Nat} {l : List UInt8} {row : Option Nat} (h : Msg w g l) (hg : w.grownBy w' row) (hne : some g ≠ row) : Msg w' g l := by
  obtain ⟨bl, hb, hr⟩ := h
  exact ⟨bl, hb, hr.grown hg hne⟩

/-- c laid into bl at o. -/
def over (bl c : List UInt8) (o : Nat) : List UInt8 := bl.take o ++ c ++ bl.drop (o + c.length)
theorem over_len (bl c : List UInt8) (o : Nat) (h : o + c.length ≤ bl.length) : (over bl c o).length = bl.length := by
  simp [over]; omega
theorem begun_some {bl l c : List UInt8} (h : Begun bl l) (hc : l.length % 64 + c.length < 64) : Begun (over bl c (l.length % 64)) (l ++ c) ∧ runB start (l ++ c) = runB start l := by
  obtain ⟨h1, h2⟩ := h
  refine ⟨⟨?_, ?_⟩, ?_⟩
  · rw [over_len _ _ _ (by omega), h1]
  · have e : (l ++ c).length % 64 = l.length % 64 + c.length := by rw [List.length_append]; omega
    rw [e, List.length_append]
    have hlt : (bl.take (l.length % 64)).length = l.length % 64 := by rw [List.length_take]; omega
    unfold over
    rw [List.take_append_of_le_length (by simp; omega), List.take_of_length_le (by simp; omega), h2]
    rw [show l.length + c.length - (l.length % 64 + c.length) = l.length - l.length % 64 by omega, List.drop_append_of_le_length (by omega)]
  · rw [runB_more, runB_small _ _ (by rw [List.length_append, List.length_drop]; omega)]
theorem begun_full {bl l c : List UInt8} (h : Begun bl l) (hc : l.length % 64 + c.length = 64) : Begun (over bl c (l.length % 64)) (l ++ c) ∧ runB start (l ++ c) = blk (runB start l) (over bl c (l.length % 64)) := by
  obtain ⟨h1, h2⟩ := h
  have ho : over bl c (l.length % 64) = l.drop (l.length - l.length % 64) ++ c := by
    unfold over
    rw [h2, hc, ← h1, List.drop_length, List.append_nil]
  refine ⟨⟨?_, ?_⟩, ?_⟩
  · rw [over_len _ _ _ (by omega), h1]
  · have e : (l ++ c).length % 64 = 0 := by rw [List.length_append]; omega
    rw [e, List.take_zero, Nat.sub_zero, List.drop_length]
  · rw [ho, runB_more, runB_one _ _ (by rw [List.length_append, List.length_drop]; omega)]

/-- The cells of a message: one byte row laid into its block. -/
theorem cells_over (S : List W32) (hS : S.length = 8) (bl c : List UInt8) (o : Nat) (x : Value) (hb : bl.length = 64) (ho : o + c.length ≤ 64) :
    splice (wordsV S ++ bytesV bl ++ [x]) (8 + o) (bytesV c) = wordsV S ++ bytesV (over bl c o) ++ [x] := by
  unfold splice over
  have h8 : (wordsV S).length = 8 := by rw [wordsV_len, hS]
  have hbl : (bytesV bl).length = 64 := by rw [bytesV_len, hb]
  have hcl : (bytesV c).length = c.length := bytesV_len c
  rw [List.append_assoc, List.take_append, List.take_of_length_le (by omega), List.drop_append, List.drop_of_length_le (by omega), h8, List.nil_append, hcl, show 8 + o - 8 = o by omega, show 8 + o + c.length - 8 = o + c.length by omega,
    List.take_append_of_le_length (by omega), List.drop_append_of_le_length (by omega), bytesV_app, bytesV_app]
  simp [bytesV]

/-- The rest of the block's place. -/
theorem slice_arr (g off : Nat) (h : off < 64) (w : World) : (Instr.sliceAt 34 (.pointer (some ⟨g, 8, none⟩)) (some (.int .i64 (off : Int))) none none).run Tryd.prog w = .ok (.slice (some ⟨g, 8 + off, none⟩) (64 - off) (64 - off)) w := by
  have h1 : (off : Int) ≤ 64 := by omega
  have h2 : ¬ (64 = off) := by omega
  simp [Instr.sliceAt, go_sem, Instr.sliceBounds, h1, h2, Addr.add]

/-- copy into the middle of a block, at a step of a region that draws. -/
theorem step_copy_row {ops : Array Oper} {o : Oper} {a : Act} {w : World} {K : Act → World → Prop} {Q : Exit → Act → World → Prop} {E : Prop} (hgd : o.guard = none) (d s : Operand)
    (ho : o.op = .call { callee := .builtin .copy, args := #[d, s], argTypes := #[22, 22] })
    (g off dLen dCap : Nat) (ad : Addr) (sLen sCap : Nat) (hd : a.eval d = .slice (some ⟨g, off, none⟩) dLen dCap) (hs : a.eval s = .slice (some ad) sLen sCap)
    (cur : List Value) (t : TypeId) (hg : Row w g t cur) (cs : List Value) (hn : cs.length = Nat.min sLen dLen)
    (hsrc : ∀ j v, cs[j]? = some v → w.cell? (ad.add j) = some v) (hfit : off + cs.length ≤ cur.length) (h1 : ∀ v ∈ cs, v.oneCell' = true)
    (h : ∀ w', Hid (Row w' g t (splice cur off cs)) → Hid (w.grownBy w' (some g)) → K (a.put o.dst (goInt cs.length)) w') :
    if Region.wanted o (yielded ops a.tmps) = true then Oper.wp Tryd.prog o a w K Q else E := by
  have hw : Region.wanted o (yielded ops a.tmps) = true := by simp [Region.wanted, hgd]
  rw [if_pos hw]
  have hrun := run_copy_row (P := Tryd.prog) w 22 22 o.type 5 g off dLen dCap ad sLen sCap cur.toArray t cs Tryd.underlying22 (by kernel_rfl) hg hn hsrc (by simpa using hfit) h1
  unfold Oper.wp
  simp [execOp, ho, resolve, invoke, builtin, hd, hs, hrun, Result.andThen]
  refine h _ ?_ (grown_setRow w g _)
  have := Row.setRow hg (splice cur off cs)
  show Row _ _ _ _
  simpa [splice] using this

theorem GrownX.none' {w w' : World} (h : GrownX [] w.drew w') : w.grownBy w' Option.none := ⟨h.os, h.tape, h.output, h.size, fun k hk _ => h.block k hk (by simp)⟩
section
variable {o : Oper} {a : Act} {w : World}
theorem ex_nil {x : Operand} {p : Addr} (h : o.op = .nilCheck x) (hx : Is (.pointer (some p)) (a.eval x) w) : (execOp a.eval o).run Tryd.prog w = .ok (.value (.pointer (some p))) w := by
  have hx' : a.eval x = .pointer (some p) := hx
  simp only [execOp, h, hx']
  simp [go_sem]
theorem ex_field0 {x : Operand} {g : Nat} (h : o.op = .fieldAddr 47 x 0) (hx : Is (.pointer (some ⟨g, 0, none⟩)) (a.eval x) w) : (execOp a.eval o).run Tryd.prog w = .ok (.value (.pointer (some ⟨g, 0, none⟩))) w := by
  have hx' : a.eval x = .pointer (some ⟨g, 0, none⟩) := hx
  simp only [execOp, h, hx']
  simp [go_sem]
theorem ex_field1 {x : Operand} {g : Nat} (h : o.op = .fieldAddr 47 x 1) (hx : Is (.pointer (some ⟨g, 0, none⟩)) (a.eval x) w) : (execOp a.eval o).run Tryd.prog w = .ok (.value (.pointer (some ⟨g, 8, none⟩))) w := by
  have hx' : a.eval x = .pointer (some ⟨g, 0, none⟩) := hx
  simp only [execOp, h, hx']
  simp [go_sem]
end
theorem set72 (S : List W32) (bl : List UInt8) (x y : Value) (hS : S.length = 8) (hb : bl.length = 64) : (wordsV S ++ bytesV bl ++ [y]).set 72 x = wordsV S ++ bytesV bl ++ [x] := by
  have h : (wordsV S ++ bytesV bl).length = 72 := by rw [List.length_append, wordsV_len, bytesV_len, hS, hb]
  rw [List.set_append_right _ _ (by omega), h]
  rfl
theorem cut_state (S S' : List W32) (bl : List UInt8) (x : Value) (hS : S.length = 8) (hS' : S'.length = 8) :
    (wordsV S ++ bytesV bl ++ [x]).take 0 ++ wordsV S' ++ (wordsV S ++ bytesV bl ++ [x]).drop (0 + (wordsV S').length) = wordsV S' ++ bytesV bl ++ [x] := by
  rw [List.take_zero, List.nil_append, Nat.zero_add, wordsV_len, hS', List.append_assoc (wordsV S), List.drop_append, List.drop_of_length_le (by rw [wordsV_len, hS]; exact Nat.le_refl _), wordsV_len, hS]
  simp
/-- The rest of a slice. -/
theorem Rd.rest {w : World} {ad : Addr} {m c n : Nat} {l : List UInt8} {A : Option Addr} (h : Rd w (.slice (some ad) m c) (bytesV l)) (hn : n ≤ m) (hA : (if c = n then some ad else some (ad.add n)) = A) : Rd w (.slice A (m - n) (c - n)) (bytesV (l.drop n)) ∧ (Value.slice A (m - n) (c - n)).ownBlock = some ad.block := by
  obtain ⟨hl, hmc, hcm⟩ := h.len
  by_cases hc : c = n
  · rw [if_pos hc] at hA
    subst hA
    have h0 : l.drop n = [] := List.drop_of_length_le (by rw [bytesV_len] at hl; omega)
    rw [h0, show m - n = 0 by omega]
    exact ⟨Rd.empty w _ _ (by omega), rfl⟩
  · rw [if_neg hc] at hA
    subst hA
    refine ⟨?_, congrArg some (add_block ad n)⟩
    have := h.drop hn
    rw [show bytesV (l.drop n) = (bytesV l).drop n by simp [bytesV]]
    exact this

theorem Rd.low {w : World} {v : Value} {l : List UInt8} (h : Rd w v (bytesV l)) (hne : l ≠ []) : ∀ b, v.ownBlock = some b → b < w.heap.size := by
  obtain ⟨A, c, rfl⟩ := h.form
  intro b hb
  cases l with
  | nil => exact absurd rfl hne
  | cons x l =>
    obtain ⟨ad, rfl, hc⟩ := h.cells (by simp [bytesV])
    have := World.block_lt_of_cell? w _ (hc 0 _ rfl)
    rw [add_block] at this
    simp only [Value.ownBlock, Option.some.injEq] at hb
    omega

set_option maxHeartbeats 4000000 in
theorem add_any (g : Nat) (l : List UInt8) (v : Value) (b : List UInt8) (w : World) (hT : Tab w) (h0 : g ≠ 0) (hm : Msg w g l) (hr : Rd w v (bytesV b)) (hne : b ≠ [] → v.ownBlock ≠ some g) (hlen : l.length + b.length ≤ 1000000000000) :
    Calls Tryd.prog 24 #[.pointer (some ⟨g, 0, none⟩), v] w fun e w' => e = .returned (.tuple #[]) ∧ Msg w' g (l ++ b) ∧ w.grownBy w' (some g) := by
  have HM := Lib.hid hm
  have HR := Lib.hid hr
  have HNE := Lib.hid hne
  have HT := Lib.hid hT
  clear hm hr hne hT
  go_enter Tryd.func24, Tryd.ntmps24
  go_wp2
  go_loopw [1] (fun u W => ∃ k : Nat, k ≤ b.length ∧ Rd W u (bytesV (b.drop k)) ∧ (b ≠ [] → u.ownBlock ≠ some g) ∧ Msg W g (l ++ b.take k) ∧ w.grownBy W (some g)) (fun u _ => match u with | .slice _ n _ => n | _ => 0)
  case atStart => exact ⟨0, Nat.zero_le _, HR.out, HNE.out, by rw [List.take_zero, List.append_nil]; exact HM.out, grown_refl _ _⟩
  case round =>
    clear HM HR HNE
    obtain ⟨k, hk, hr, hne, hm, hg⟩ := hrel
    obtain ⟨A, c, rfl⟩ := hr.form
    have hl := bytesV_len (b.drop k)
    rw [List.length_drop] at hl
    obtain ⟨_, hlc, hcm⟩ := hr.len
    unfold maxLen at hcm
    rw [hl] at hlc
    by_cases hlt : k < b.length
    · have hne := hne (by rintro rfl; simp at hlt)
      obtain ⟨ad, rfl, hcl⟩ := hr.cells (by intro e; rw [e] at hl; simp at hl; omega)
      obtain ⟨bl, hbg, hrow⟩ := hm
      have hll : (l ++ b.take k).length = l.length + k := by rw [List.length_append, List.length_take]; omega
      have hsz : wr.cell? ⟨g, 72, none⟩ = some (.int .i64 ((l.length : Int) + (k : Int))) := hrow.cell (by
        rw [List.getElem?_append_right (by simp [wordsV_len, bytesV_len, hbg.1, runB_len _ _ start_len])]
        simp [wordsV_len, bytesV_len, hbg.1, runB_len _ _ start_len]
        omega)
      have HBG := Lib.hid hbg
      have HROW := Lib.hid hrow
      have HCL := Lib.hid hcl
      have HLL := Lib.hid hll
      have hr' : Rd wr (.slice (some ad) (b.length - k) c) (bytesV (b.drop k)) := by rw [← hl]; exact hr
      have HRD := Lib.hid hr'
      have hne' : (Value.slice (some ad) (b.length - k) c).ownBlock ≠ some g := hne
      clear hr'
      have HNE := Lib.hid hne'
      have HG := Lib.hid hg
      clear hbg hrow hcl hll hr hne hg hne'
      rw [hl]
      generalize hmm : b.length - k = m at *
      clear hl
      have hm0 : 0 < m := by omega
      generalize hoff : (l.length + k) % 64 = off
      have ho64 : off < 64 := by omega
      have hrem : ((l.length : Int) + (k : Int)).tmod 64 = (off : Int) := by
        rw [Int.tmod_eq_emod_of_nonneg (by omega)]
        omega
      obtain ⟨cb, hcb⟩ : ∃ cb, cb = (b.drop k).take (64 - off) := ⟨_, rfl⟩
      obtain ⟨n, hn⟩ : ∃ n, n = Nat.min m (64 - off) := ⟨_, rfl⟩
      have hnm : n ≤ m := by rw [hn]; exact Nat.min_le_left _ _
      have hn64 : n ≤ 64 - off := by rw [hn]; exact Nat.min_le_right _ _
      have hn1 : 0 < n := by rw [hn]; exact Nat.lt_min.2 ⟨hm0, by omega⟩
      have hcl : cb.length = n := by
        rw [hcb, hn, List.length_take, List.length_drop, hmm]
        exact Nat.min_comm _ _
      have hcs : (bytesV cb).length = Nat.min m (64 - off) := by rw [bytesV_len, hcl, hn]
      have hsrc : ∀ j v, (bytesV cb)[j]? = some v → wr.drew.cell? (ad.add j) = some v := fun j v hj => by
        refine HCL.out j v ?_
        rw [hcb] at hj
        simp only [bytesV, List.map_take, List.getElem?_take] at hj
        split at hj
        · exact hj
        · cases hj
      have hS8 := runB_len start (l ++ b.take k) start_len
      have hfit : 8 + off + (bytesV cb).length ≤ (wordsV (runB start (l ++ b.take k)) ++ bytesV bl ++ [Value.int .i64 ((l ++ b.take k).length : Int)]).length := by
        rw [bytesV_len, hcl, List.length_append, List.length_append, wordsV_len, hS8, bytesV_len, HBG.out.1]
        simp only [List.length_singleton]
        omega
      have hdr : b.drop (k + n) = (b.drop k).drop n := by rw [List.drop_drop]
      have htk : l ++ b.take (k + n) = (l ++ b.take k) ++ cb := by
        have : cb = (b.drop k).take n := by
          rw [hcb]
          by_cases h : m ≤ 64 - off
          · rw [List.take_of_length_le (by rw [List.length_drop, hmm]; exact h), List.take_of_length_le (by rw [List.length_drop, hmm, hn]; exact Nat.le_of_eq (Nat.min_eq_left h).symm)]
          · rw [hn, show Nat.min m (64 - off) = 64 - off from Nat.min_eq_right (by omega)]
        rw [List.append_assoc, List.take_add, this]
      have hov := fun x => cells_over (runB start (l ++ b.take k)) hS8 bl cb off x HBG.out.1 (by omega)
      have hbf := begun_full (c := cb) HBG.out
      have hbs := begun_some (c := cb) HBG.out
      rw [HLL.out, hoff, hcl] at hbf hbs
      have HCP := Lib.hid (And.intro hcs (And.intro hsrc hfit))
      have HN := Lib.hid (And.intro hcl (And.intro hdr (And.intro htk (And.intro hov (And.intro hbf hbs)))))
      have HS8 := Lib.hid hS8
      have HCB := Lib.hid hcl
      clear hcs hsrc hfit hcl hdr htk hov hbf hbs hS8 hn hcb
      have hsl : ∀ w, (Instr.sliceAt 34 (.pointer (some ⟨g, 8, none⟩)) (some (.int .i64 (off : Int))) none none).run Tryd.prog w = .ok (.slice (some ⟨g, 8 + off, none⟩) (64 - off) (64 - off)) w := fun w => slice_arr g off ho64 w
      go_wp2
      go_region_law (refine step_copy_row rfl (.tmp 16) (.tmp 17) rfl g (8 + off) (64 - off) (64 - off) ad m c rfl rfl _ 47 HROW.out (bytesV cb) HCP.out.1 HCP.out.2.1 HCP.out.2.2 (bytesV_one _) ?_; intro w1 HR1 HG1)
      have r1 : Row w1 g 47 (wordsV (runB start (l ++ b.take k)) ++ bytesV (over bl cb off) ++ [Value.int .i64 ((l ++ b.take k).length : Int)]) := by
        rw [← HN.out.2.2.2.1]
        exact HR1.out
      have hsz1 : w1.cell? ⟨g, 72, none⟩ = some (.int .i64 ((l.length : Int) + (k : Int))) := by
        refine r1.cell ?_
        rw [HLL.out]
        have h1 := HS8.out
        have h2 : (over bl cb off).length = 64 := by rw [over_len _ _ _ (by rw [HCB.out, HBG.out.1]; omega), HBG.out.1]
        rw [List.getElem?_append_right (by rw [List.length_append, wordsV_len, bytesV_len]; omega), List.length_append, wordsV_len, bytesV_len, h1, h2]
        simp
      have hfz1 := r1.frozen 72
      have hbl : (bytesV cb).length = n := by rw [bytesV_len, HCB.out]
      rw [hbl]
      have HRR := Lib.hid r1
      obtain ⟨A2, hA2⟩ : ∃ A2, (if c = n then some ad else some (ad.add n)) = A2 := ⟨_, rfl⟩
      have hg1 : wr.grownBy w1 (some g) := ⟨HG1.out.os, HG1.out.tape, HG1.out.output, HG1.out.size, HG1.out.block⟩
      have hrest := (HRD.out.grown hg1 (fun b' hb' e => HNE.out (by rw [hb', e]))).rest hnm hA2
      have hadg : ad.block ≠ g := fun e => HNE.out (by simp [Value.ownBlock, e])
      have HREST := Lib.hid hrest
      have HW1 := Lib.hid (grown_trans' HG.out hg1)
      have hov64 : (over bl cb off).length = 64 := by rw [over_len _ _ _ (by rw [HCB.out, HBG.out.1]; omega), HBG.out.1]
      have HOV := Lib.hid hov64
      have HTT := Lib.hid (fun (i : Nat) (hi : i < 64) => (World.cell?_of_block (w := w) (w' := w1) (a := ⟨0, i, none⟩) (HW1.out.block 0 (World.block_lt_of_cell? w _ (HT.out i hi)) (by simpa using fun e : 0 = g => h0 e.symm))).trans (HT.out i hi))
      clear r1 hbl HR1 hrest hg1 hov64
      by_cases hfull : off + n = 64
      · have hq : (((l.length : Int) + (k : Int) + (n : Int)) % 64 == 0) = true := by simp; omega
        have r2 := HRR.out.set 72 (.int .i64 ((l.length : Int) + (k : Int) + (n : Int)))
        rw [set72 _ _ _ _ HS8.out HOV.out] at r2
        have hw2 := grown_trans' HW1.out (grown_set w1 g 72 (.int .i64 ((l.length : Int) + (k : Int) + (n : Int))))
        have hrest2 := HREST.out.1.grown (grown_set w1 g 72 (.int .i64 ((l.length : Int) + (k : Int) + (n : Int)))) (fun b' hb' e => by rw [HREST.out.2] at hb'; cases hb'; cases e; exact hadg rfl)
        have htab2 : Tab (w1.setCell ⟨g, 72, none⟩ (.int .i64 ((l.length : Int) + (k : Int) + (n : Int)))) := fun i hi => by
          rw [World.cell?_of_block (w := w1) (heap_setCell_other w1 _ 0 _ (fun e => h0 e.symm))]
          exact HTT.out i hi
        have R2 := Lib.hid r2
        have HW2 := Lib.hid hw2
        have HREST2 := Lib.hid hrest2
        have HTAB2 := Lib.hid htab2
        clear r2 hw2 hrest2 htab2
        have hb2 := HN.out.2.2.2.2.1 hfull
        have HB2 := Lib.hid hb2
        clear hb2
        go_wp2
        clear hsz1 hfz1
        generalize w1.setCell ⟨g, 72, none⟩ (.int .i64 ((l.length : Int) + (k : Int) + (n : Int))) = W2 at *
        generalize hS : runB start (l ++ b.take k) = S at *
        generalize hbl' : over bl cb off = bl' at *
        refine wp_region_walk 10 [] dis_nil (by kernel_rfl) (by kernel_rfl) (by kernel_rfl) ?_
        simp only [List.take_succ_cons, List.take_zero, List.drop_succ_cons, List.drop_zero]
        refine Walk.val (G := Is (.pointer (some ⟨g, 0, none⟩))) (stays_is _ _) rfl rfl (fun a w hm hd => ⟨wanted_plain rfl, _, ex_move rfl, by rw [hm.outer 0 (by kernel_rfl)]; exact rfl⟩) ?_
        refine Walk.val (G := Is (.pointer (some ⟨g, 0, none⟩))) (stays_is _ _) rfl rfl (fun a w hm hd => ⟨wanted_plain rfl, _, ex_move rfl, by rw [hm.outer 0 (by kernel_rfl)]; exact rfl⟩) ?_
        refine Walk.val (G := Is (.pointer (some ⟨g, 0, none⟩))) (stays_is _ _) rfl rfl (fun a w hm hd => ⟨wanted_plain rfl, _, ex_nil rfl (hd.at_ 1 rfl rfl rfl rfl), rfl⟩) ?_
        refine Walk.val (G := Is (.pointer (some ⟨g, 0, none⟩))) (stays_is _ _) rfl rfl (fun a w hm hd => ⟨wanted_plain rfl, _, ex_field0 rfl (hd.at_ 2 rfl rfl rfl rfl), rfl⟩) ?_
        refine Walk.val (G := Is (.agg (wordsV S).toArray)) (stays_is _ _) rfl rfl (fun a w hm hd => ⟨wanted_plain rfl, _, ex_load_part rfl g 0 47 _ (wordsV S) _ (hd.at_ 3 rfl rfl rfl rfl) (R2.out.grown0 hm.grow.none') (fun j u hj => by rw [Nat.zero_add, List.append_assoc, List.getElem?_append_left (List.getElem?_eq_some_iff.1 hj).1]; exact hj) Tryd.underlying44 rfl (by rw [wordsV_len, HS8.out]; kernel_rfl), rfl⟩) ?_
        refine Walk.val (G := Is (.pointer (some ⟨g, 0, none⟩))) (stays_is _ _) rfl rfl (fun a w hm hd => ⟨wanted_plain rfl, _, ex_move rfl, by rw [hm.outer 0 (by kernel_rfl)]; exact rfl⟩) ?_
        refine Walk.val (G := Is (.pointer (some ⟨g, 0, none⟩))) (stays_is _ _) rfl rfl (fun a w hm hd => ⟨wanted_plain rfl, _, ex_nil rfl (hd.at_ 5 rfl rfl rfl rfl), rfl⟩) ?_
        refine Walk.val (G := Is (.pointer (some ⟨g, 8, none⟩))) (stays_is _ _) rfl rfl (fun a w hm hd => ⟨wanted_plain rfl, _, ex_field1 rfl (hd.at_ 6 rfl rfl rfl rfl), rfl⟩) ?_
        refine Walk.val (G := Is (.agg (bytesV bl').toArray)) (stays_is _ _) rfl rfl (fun a w hm hd => ⟨wanted_plain rfl, _, ex_load_part rfl g 8 47 _ (bytesV bl') _ (hd.at_ 7 rfl rfl rfl rfl) (R2.out.grown0 hm.grow.none') (fun j u hj => by
          have hlt := (List.getElem?_eq_some_iff.1 hj).1
          rw [List.append_assoc, List.getElem?_append_right (by rw [wordsV_len, HS8.out]; omega), wordsV_len, HS8.out, show 8 + j - 8 = j by omega, List.getElem?_append_left hlt]
          exact hj) Tryd.underlying34 rfl (by rw [bytesV_len, HOV.out]; kernel_rfl), rfl⟩) ?_
        refine Walk.call (G := Is (.agg (wordsV (blk S bl')).toArray)) (stays_is _ _) rfl 33 rfl (fun a w hm _ hd => ⟨wanted_plain rfl, _, ex_call2 Tryd.func33 (by kernel_rfl) (by kernel_rfl) rfl, by
          have e4 : a.eval (.tmp 40) = _ := hd.at_ 4 rfl rfl rfl rfl
          have e8 : a.eval (.tmp 44) = _ := hd.at_ 8 rfl rfl rfl rfl
          rw [e4, e8]
          refine (block_any S HS8.out bl' HOV.out w (HTAB2.out.grown hm.grow.none')).mono ?_
          rintro e w' ⟨rfl, hg⟩
          exact ⟨_, rfl, hg, rfl⟩⟩) ?_
        intro a w3 hm hall
        have f0 : a.eval (.tmp 36) = _ := hall 0 _ _ rfl rfl
        have f1 : a.eval (.tmp 37) = _ := hall 1 _ _ rfl rfl
        have f2 : a.eval (.tmp 38) = _ := hall 2 _ _ rfl rfl
        have f3 : a.eval (.tmp 39) = _ := hall 3 _ _ rfl rfl
        have f4 : a.eval (.tmp 40) = _ := hall 4 _ _ rfl rfl
        have f5 : a.eval (.tmp 41) = _ := hall 5 _ _ rfl rfl
        have f6 : a.eval (.tmp 42) = _ := hall 6 _ _ rfl rfl
        have f7 : a.eval (.tmp 43) = _ := hall 7 _ _ rfl rfl
        have f8 : a.eval (.tmp 44) = _ := hall 8 _ _ rfl rfl
        have f9 : a.eval (.tmp 45) = _ := hall 9 _ _ rfl rfl
        have hfr := hm.frame
        simp only [List.take_succ_cons, List.take_zero, List.filterMap_cons, List.filterMap_nil, List.foldl_cons, List.foldl_nil, f0, f1, f2, f3, f4, f5, f6, f7, f8, f9] at hfr
        have hg3 : W2.grownBy w3 none := GrownX.none' hm.grow
        have R3 := Lib.hid (R2.out.grown0 hg3)
        have HB8 := Lib.hid (show (wordsV (blk S bl')).length = 8 by rw [wordsV_len, blk_len S bl' HS8.out])
        have HG3 := Lib.hid (grown_trans' HW2.out (grown_none hg3 (some g)))
        have HREST3 := Lib.hid (HREST2.out.grown0 hg3)
        clear f0 f1 f2 f3 f4 f5 f6 f7 f8 f9 hall hm hg3
        rw [hfr]
        clear hfr
        go_wp2_with (refine wpList_store_part _ rfl rfl _ _ _ rfl g 0 47 _ (wordsV (blk S bl')) rfl rfl R3.out ?_ (wordsV_one _) ?_ ?_)
        · rw [HB8.out, List.length_append, List.length_append, wordsV_len, HS8.out]
          omega
        · rw [HB8.out]
          kernel_rfl
        intro w4 hr4 hg4
        rw [cut_state S (blk S bl') bl' _ HS8.out (blk_len S bl' HS8.out)] at hr4
        have HR4 := Lib.hid hr4
        have HG4 := Lib.hid hg4
        clear hr4 hg4
        go_wp2
        go_roundw
        case rel =>
          refine ⟨k + n, by omega, ?_, ?_, ⟨bl', ?_, ?_⟩, ?_⟩
          · rw [HN.out.2.1]
            exact HREST3.out.grown HG4.out (fun b' hb' e => by rw [HREST.out.2] at hb'; cases hb'; cases e; exact hadg rfl)
          · intro _
            rw [HREST.out.2]
            simpa using hadg
          · rw [HN.out.2.2.1]; exact HB2.out.1
          · rw [HN.out.2.2.1, HB2.out.2, List.length_append, HLL.out, HCB.out]
            rw [show (((l.length + k + n : Nat)) : Int) = (l.length : Int) + (k : Int) + (n : Int) by omega]
            exact HR4.out
          · exact grown_trans' HG3.out HG4.out
        case measure => simp; omega
      · have hq : (((l.length : Int) + (k : Int) + (n : Int)) % 64 == 0) = false := by simp; omega
        go_wp2
        go_roundw
        case rel =>
          have hb2 := HN.out.2.2.2.2.2 (by omega)
          refine ⟨k + n, by omega, ?_, ?_, ⟨over bl cb off, ?_, ?_⟩, ?_⟩
          · rw [HN.out.2.1]
            exact HREST.out.1.grown (grown_set w1 g 72 _) (fun b' hb' e => by rw [HREST.out.2] at hb'; cases hb'; cases e; exact hadg rfl)
          · intro _
            rw [HREST.out.2]
            simpa using hadg
          · rw [HN.out.2.2.1]; exact hb2.1
          · have := HRR.out.set 72 (.int .i64 ((l.length : Int) + (k : Int) + (n : Int)))
            rw [set72 _ _ _ _ HS8.out HOV.out] at this
            rw [HN.out.2.2.1, hb2.2, List.length_append, HLL.out, HCB.out]
            rw [show (((l.length + k + n : Nat)) : Int) = (l.length : Int) + (k : Int) + (n : Int) by omega]
            exact this
          · exact grown_trans' HW1.out (grown_set w1 g 72 _)
        case measure => simp; omega
    · have hkb : b.drop k = [] := List.drop_of_length_le (by omega)
      have htb : b.take k = b := List.take_of_length_le (by omega)
      rw [htb] at hm
      rw [hl, show b.length - k = 0 by omega] at *
      have HM := Lib.hid hm
      have HG := Lib.hid hg
      clear hm hg hr hne
      go_wp2
      refine ⟨rfl, _, ?_, rfl, HM.out, HG.out⟩
      simp [results, Tryd.results24]
end Go.Proofs.YtmhcfbfdbminnaaDoor
