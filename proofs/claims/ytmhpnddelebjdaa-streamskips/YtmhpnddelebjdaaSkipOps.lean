/-
  append of a block onto a row of blocks, over this program.
-/
import Derived.Test.YtmhpnddelebjdaaStrEq
import Derived.Test.YtmhpnddelebjdaaStrIter
import Derived.Test.YtmhpnddelebjdaaStrXor
import Derived.Great.BuildSlice
import Derived.Maps.AppendAt
namespace Go.Proofs.Ytmhpnddelebjdaa
open Go.RowKit

theorem fold_set : ∀ (l : List Value) (k : Nat) (cs : Array Value), k + l.length ≤ cs.size →
    (l.zipIdx k).foldl (fun (cs : Array Value) (x : Value × Nat) => cs.setIfInBounds (0 + x.2) x.1) cs = (cs.toList.take k ++ l ++ cs.toList.drop (k + l.length)).toArray
  | [], k, cs, h => by simp
  | x :: l, k, cs, h => by
    simp only [List.length_cons] at h
    rw [List.zipIdx_cons, List.foldl_cons, fold_set l (k + 1) _ (by simp; omega)]
    congr 1
    apply List.ext_getElem?
    intro i
    simp only [Nat.zero_add, Array.toList_setIfInBounds, List.getElem?_append, List.length_append, List.length_take, List.length_set, List.getElem?_take, List.getElem?_set, List.getElem?_drop, List.length_cons, Array.length_toList]
    rcases Nat.lt_trichotomy i k with hi | hi | hi
    · simp [show i < k + 1 by omega, show i < cs.size by omega, show ¬ k = i by omega, hi, show i < k + 1 + l.length by omega, show i < k + (l.length + 1) by omega, show min (k + 1) cs.size = k + 1 by omega, show min k cs.size = k by omega]
    · subst hi
      simp [show i < cs.size by omega, show min (i + 1) cs.size = i + 1 by omega, show min i cs.size = i by omega]
      omega
    · simp only [show min (k + 1) cs.size = k + 1 by omega, show min k cs.size = k by omega]
      by_cases h2 : i < k + 1 + l.length
      · have e : i - k = (i - (k + 1)) + 1 := by omega
        simp [h2, show i < k + (l.length + 1) by omega, show ¬ i < k + 1 by omega, show ¬ i < k by omega, e]
      · simp [h2, show ¬ i < k + (l.length + 1) by omega]
        rw [if_neg (by omega)]
        congr 1
        omega

theorem info64 : ∃ i z, Try.prog.info? 31 = some i ∧ i.zero = some z ∧ z.cells.size = 64 ∧ i.size = 64 ∧ i.bytes = 64 := by
  have h : (Try.prog.info? 31).map (fun i => (i.zero.map (fun z => z.cells.size), i.size, i.bytes)) = some (some 64, 64, 64) := by kernel_rfl
  obtain ⟨i, hi, he⟩ := Option.map_eq_some_iff.1 h
  simp only [Prod.mk.injEq, Option.map_eq_some_iff] at he
  obtain ⟨⟨z, hz, h1⟩, h2, h3⟩ := he
  exact ⟨i, z, hi, hz, h1, h2, h3⟩

section
variable {ops : Array Oper} {rest : List Oper} {o : Oper} {a : Act} {w : World} {Q : Exit → Act → World → Prop}
theorem wpList_build1 (hg : o.guard = none) (x : Operand) (ho : o.op = .buildSlice 42 1 #[(0, x)]) (ys : List Value) (hl : ys.length = 64) (hx : a.eval x = .agg ys.toArray)
    (h : wpList Try.prog ops Q rest (a.put o.dst (.slice (some ⟨w.heap.size, 0, none⟩) 1 1)) (w.alloc (.cells ys.toArray 31))) : wpList Try.prog ops Q (o :: rest) a w := by
  obtain ⟨i, z, hi, hz, h1, h2, h3⟩ := info64
  refine wpList_buildSlice hg 42 31 1 #[(0, x)] ho ys.toArray i z Try.underlying42 hi hz (by rw [h2]; decide) (by rw [h2]; decide) ?_ h
  rw [h2]
  have hsz : ((Array.range (1 * 64)).map (z.cells[· % z.cells.size]!)).size = 64 := by simp
  generalize ((Array.range (1 * 64)).map (z.cells[· % z.cells.size]!)) = cs at *
  simp only [List.map_toArray, List.map_cons, List.map_nil, hx, Instr.fill]
  have hc : (Value.agg ys.toArray).cells = ys.toArray := rfl
  rw [hc, if_neg (by simp [hl, hsz])]
  have := fold_set ys 0 cs (by rw [hsz, hl]; decide)
  simp only [Nat.zero_mul]
  rw [← Array.foldl_toList, Array.toList_zipIdx, show ys.toArray.toList = ys from rfl]
  refine congrArg some (this.trans ?_)
  have e : cs.toList.drop (0 + ys.length) = [] := List.drop_eq_nil_of_le (by simp [hsz, hl])
  rw [e]
  simp
theorem wpList_app64 (hgd : o.guard = none) (s x : Operand) (ho : o.op = .call { callee := .builtin .append, args := #[s, x], argTypes := #[42, 42] })
    (base : Nat) (v : Value) (n : Nat) (xs : List Value) (hs : a.eval s = v) (hown : w.ownsRow base 31 64 v n xs) (g : Nat) (ys : List Value) (hx : a.eval x = .slice (some ⟨g, 0, none⟩) 1 1) (hr : Row w g 31 ys) (hl : ys.length = 64) (h1 : ∀ u ∈ ys, u.oneCell' = true)
    (hn : n ≤ 1000000) (hbase : base ≤ w.heap.size)
    (h : ∀ g' c w', w'.ownsRow base 31 64 (.slice (some ⟨g', 0, none⟩) (n + 1) c) (n + 1) (xs ++ ys) → w.grownBy w' v.ownBlock → (some g' = v.ownBlock ∨ g' = w.heap.size) → wpList Try.prog ops Q rest (a.put o.dst (.slice (some ⟨g', 0, none⟩) (n + 1) c)) w') : wpList Try.prog ops Q (o :: rest) a w := by
  obtain ⟨i, z, hi, hz, hz1, h2, h3⟩ := info64
  obtain ⟨v', w', hrun, ho2, hgr, _, hob⟩ := run_append_own_at (P := Try.prog) w base 42 o.type 31 i z 64 64 Try.underlying42 hi hz h2 h3 hz1 (by decide) v n xs hown ⟨g, 0, none⟩ 1 1 ys (by rw [hl])
    (fun j u hu => by
      have := hr.cell hu
      rw [add_at, Nat.zero_add]
      exact this) h1 (by unfold maxLen; omega) (by omega) hbase
  refine wpList_plain hgd fun _ hK => ?_
  unfold Oper.wp execOp
  simp only [ho, resolve, invoke, builtin, Sem.run_bind, Sem.run_pure, Result.andThen_ok, List.map_toArray, List.map_cons, List.map_nil, hs, hx, hrun]
  refine hK _ _ ?_
  have ho3 := ho2
  rcases ho3.2 with ⟨_, e⟩ | ⟨g', c, cur, rfl, _⟩
  · omega
  · exact h g' c w' ho2 hgr (by
      rcases hob with e | e
      · exact .inl (by rw [← e]; rfl)
      · exact .inr (by simpa [Value.ownBlock] using e))
theorem wpList_loadS (hgd : o.guard = none) (x : Operand) (ho : o.op = .load 42 x) (g : Nat) (v : Value) (hx : a.eval x = .pointer (some ⟨g, 0, none⟩)) (hr : Row w g 42 [v]) (h : wpList Try.prog ops Q rest (a.put o.dst v) w) : wpList Try.prog ops Q (o :: rest) a w := by
  have hc := hr.cell (j := 0) rfl
  refine wpList_plain hgd fun _ hK => ?_
  have hrun : (execOp a.eval o).run Try.prog w = .ok (.value v) w := by
    simp only [execOp, ho, hx]
    simp [go_sem, hc]
  unfold Oper.wp
  rw [hrun]
  exact hK _ _ h
end
theorem own_from {B base : Nat} {W W' : World} {row : Option Nat} {v : Value} {n : Nat} {xs : List Value} (h : W.ownsRow base 31 64 v n xs) (hg : W.grownBy W' row) (hr : ∀ r, row = some r → B ≤ r ∧ ∃ o : Obj, W.heap[r]? = some o ∧ o.isCells = false) : W'.ownsRow base 31 64 v n xs := by
  refine ⟨h.1, ?_⟩
  rcases h.2 with h1 | ⟨g, cap, cur, hv, hb, hc, rest⟩
  · exact .inl h1
  · refine .inr ⟨g, cap, cur, hv, hb, ?_, rest⟩
    rw [hg.block g (Array.getElem?_eq_some_iff.1 hc).1 (fun e => by
      obtain ⟨_, o, ho, ho2⟩ := hr g e.symm
      rw [hc] at ho
      cases ho
      cases ho2)]
    exact hc
theorem own_other {base : Nat} {W W' : World} {row : Option Nat} {v : Value} {n : Nat} {xs : List Value} (h : W.ownsRow base 31 64 v n xs) (hg : W.grownBy W' row) (hr : ∀ r, row = some r → r < base) : W'.ownsRow base 31 64 v n xs := by
  refine ⟨h.1, ?_⟩
  rcases h.2 with h1 | ⟨g, cap, cur, hv, hb, hc, rest⟩
  · exact .inl h1
  · refine .inr ⟨g, cap, cur, hv, hb, ?_, rest⟩
    rw [hg.block g (Array.getElem?_eq_some_iff.1 hc).1 (fun e => by have := hr g e.symm; omega)]
    exact hc
/-- The row that append turns is cells: what is no cells is kept. -/
theorem keeps_own {B base : Nat} {W W' : World} {v : Value} {n : Nat} {xs : List Value} (h : W.ownsRow base 31 64 v n xs) (hg : W.grownBy W' v.ownBlock) : KeepsFrom B W W' := by
  refine ⟨hg.size, fun k o _ hk ho => (hg.block k (Array.getElem?_eq_some_iff.1 hk).1 (fun e => ?_)).trans hk⟩
  rcases h.2 with ⟨rfl, _⟩ | ⟨g, cap, cur, rfl, hb, hc, _⟩
  · cases e
  · cases e
    rw [hc] at hk
    cases hk
    cases ho
/-- So many blocks behind one another. -/
def catB (key : List UInt8) (n : W32) (nonce : List UInt8) : Nat → List UInt8
  | 0 => []
  | k + 1 => catB key n nonce k ++ blok key (n + BitVec.ofNat 32 k) nonce
theorem catB_len (key : List UInt8) (n : W32) (nonce : List UInt8) : ∀ k, (catB key n nonce k).length = 64 * k
  | 0 => rfl
  | k + 1 => by rw [catB, List.length_append, catB_len key n nonce k, blok_len]; omega
theorem catB_at (key : List UInt8) (n : W32) (nonce : List UInt8) (i : Nat) : ∀ k, i < k → ∀ j : Nat, ∀ u, (blok key (n + BitVec.ofNat 32 i) nonce)[j]? = some u → (catB key n nonce k)[64 * i + j]? = some u
  | 0, h => by omega
  | k + 1, h => fun j u hu => by
    have hj : j < 64 := by
      have := (List.getElem?_eq_some_iff.1 hu).1
      rwa [blok_len] at this
    rw [catB]
    by_cases hi : i < k
    · rw [List.getElem?_append_left (by rw [catB_len]; omega)]
      exact catB_at key n nonce i k hi j u hu
    · have : i = k := by omega
      subst this
      rw [List.getElem?_append_right (by rw [catB_len]; omega), catB_len]
      rw [show 64 * i + j - 64 * i = j by omega]
      exact hu
end Go.Proofs.Ytmhpnddelebjdaa
