/-
  Several texts in one file.
-/
import Derived.WalkKit
import Derived.WalkSpells
import Derived.WalkLawsBesides
import Derived.Lib.Hide
import Derived.Lib.AppendZeros
import Derived.Lib.SliceRun
import Derived.Deep.AppendLies
import Derived.KernelRfl
import Derived.Deep.WholeRow
import Derived.Laws.CopyRow
import Derived.Laws.CopyOwn
import Derived.Deep.QuietTactic
import Derived.Orders
import Derived.StillTailTactics
/-
  Words for memory, of no program: a slice value that reads as a list of cells (nil let in), kept over whatever grows; append of such a slice onto a row of the call's own.
-/
namespace Go.Proofs.YtiakkfcjdmecdaaDoor
set_option maxRecDepth 1000000
open Go.RowKit

theorem add_block (a : Addr) (n : Nat) : (a.add n).block = a.block := by unfold Addr.add; split <;> rfl

theorem add_add (a : Addr) (i j : Nat) : (a.add i).add j = a.add (i + j) := by
  unfold Addr.add
  by_cases hi : i = 0 <;> by_cases hj : j = 0 <;> simp [hi, hj, Nat.add_assoc]

/-- The slice value v reads, in world w, as the cells xs (of one cell each). -/
def Rd (w : World) (v : Value) (xs : List Value) : Prop :=
  ∃ A c, v = .slice A xs.length c ∧ xs.length ≤ c ∧ c ≤ maxLen ∧
    (xs ≠ [] → ∃ ad : Addr, A = some ad ∧ ∀ j u, xs[j]? = some u → w.cell? (ad.add j) = some u)

theorem Rd.nil (w : World) : Rd w (.slice none 0 0) [] := ⟨none, 0, rfl, Nat.le_refl _, Nat.zero_le _, fun h => absurd rfl h⟩

theorem Rd.keep {w w' : World} {v : Value} {xs : List Value} (h : Rd w v xs)
    (hk : ∀ b, v.ownBlock = some b → b < w.heap.size → w'.heap[b]? = w.heap[b]?) : Rd w' v xs := by
  obtain ⟨A, c, rfl, h1, h2, h3⟩ := h
  refine ⟨A, c, rfl, h1, h2, fun hne => ?_⟩
  obtain ⟨ad, rfl, hc⟩ := h3 hne
  refine ⟨ad, rfl, fun j u hu => ?_⟩
  have := hc j u hu
  have hlt := World.block_lt_of_cell? w _ this
  rw [← this]
  refine World.cell?_of_block ?_
  rw [add_block] at hlt ⊢
  exact hk _ rfl hlt

theorem Rd.grown {w w' : World} {v : Value} {xs : List Value} {row : Option Nat} (h : Rd w v xs) (hg : w.grownBy w' row)
    (hne : ∀ b, v.ownBlock = some b → some b ≠ row) : Rd w' v xs :=
  h.keep fun b hb hlt => hg.block b hlt (hne b hb)

theorem Rd.grown0 {w w' : World} {v : Value} {xs : List Value} (h : Rd w v xs) (hg : w.grownBy w' none) : Rd w' v xs :=
  h.grown hg fun _ _ => by simp

theorem Rd.of_own {w : World} {base : Nat} {e : TypeId} {v : Value} {n : Nat} {xs : List Value} (h : w.ownsRow base e 1 v n xs) : Rd w v xs := by
  have hl : xs.length = n := by simpa using h.1
  have hc := @World.ownsRow.cells _ _ _ _ _ _ _ h
  rcases h.2 with ⟨rfl, rfl⟩ | ⟨g, cap, cur, rfl, _, hg, hnc, hcm, hs, ht⟩
  · obtain rfl : xs = [] := List.eq_nil_of_length_eq_zero hl
    exact Rd.nil w
  · subst hl
    exact ⟨_, cap, rfl, hnc, hcm, fun _ => ⟨_, rfl, hc (g := g) rfl⟩⟩

theorem grown_refl (w : World) (row : Option Nat) : w.grownBy w row := ⟨rfl, rfl, rfl, Nat.le_refl _, fun _ _ _ => rfl⟩

theorem grown_none {w w' : World} (h : w.grownBy w' none) (row : Option Nat) : w.grownBy w' row :=
  ⟨h.os, h.tape, h.output, h.size, fun k hk _ => h.block k hk (by simp)⟩

/-- A step that may turn only a block that is new since w. -/
theorem grown_new {w w1 w2 : World} {row : Option Nat} (h : w.grownBy w1 none) (k : w1.grownBy w2 row) (hr : ∀ b, row = some b → w.heap.size ≤ b) : w.grownBy w2 none :=
  ⟨k.os.trans h.os, k.tape.trans h.tape, k.output.trans h.output, Nat.le_trans h.size k.size, fun i hi _ =>
    (k.block i (Nat.lt_of_lt_of_le hi h.size) (fun e => by have := hr i e.symm; omega)).trans (h.block i hi (by simp))⟩

theorem grown_drew {w w' : World} {row : Option Nat} (h : w.grownBy w' row) : w.grownBy w'.drew row := ⟨h.os, h.tape, h.output, h.size, h.block⟩

theorem grown_alloc {w w' : World} {row : Option Nat} (h : w.grownBy w' row) (o : Obj) : w.grownBy (w'.alloc o) row :=
  ⟨h.os, h.tape, h.output, Nat.le_trans h.size (by simp), fun i hi hne => (Below.heap_alloc w' o i (Nat.lt_of_lt_of_le hi h.size)).trans (h.block i hi hne)⟩

theorem grown_below {w w' : World} (h : w.grownBy w' none) : Below w.heap.size w w' :=
  ⟨h.os, h.tape, h.output, h.size, fun k hk => h.block k hk (by simp)⟩

theorem own_drew {w : World} {base : Nat} {e : TypeId} {size : Nat} {v : Value} {n : Nat} {xs : List Value} (h : w.ownsRow base e size v n xs) : w.drew.ownsRow base e size v n xs := h

/-- append of a slice that reads as 'news' onto a row of the call's own. -/
theorem run_append_rd {P : Program} (w : World) (base : Nat) (t ty e : TypeId) (i : TypeInfo) (z : Value) (bytes : Nat) (ht : P.underlying t = some (.slice e)) (hi : P.info? e = some i) (hz : i.zero = some z)
    (hsize : i.size = 1) (hby : i.bytes = bytes) (hzs : z.cells.size = 1)
    (v : Value) (n : Nat) (xs : List Value) (hown : w.ownsRow base e 1 v n xs)
    (u : Value) (news : List Value) (hr : Rd w u news) (h1 : ∀ x ∈ news, x.oneCell' = true)
    (hbytes : (n + news.length) * bytes ≤ 140737488355328) (h63 : n + news.length ≤ 140737488355328) (hbase : base ≤ w.heap.size) :
    ∃ v' w', (Builtin.append_ #[t, t] ty #[v, u]).run P w = .ok v' w' ∧ w'.ownsRow base e 1 v' (n + news.length) (xs ++ news) ∧ w.grownBy w' v.ownBlock ∧
      (v'.ownBlock = v.ownBlock ∨ v'.ownBlock = some w.heap.size) := by
  obtain ⟨A, c, rfl, hlc, hcm, hcell⟩ := hr
  cases A with
  | none =>
    have hn : news = [] := by
      rcases news with _ | ⟨x, news⟩
      · rfl
      · obtain ⟨ad, h, _⟩ := hcell (by simp); cases h
    subst hn
    refine ⟨v, w, ?_, by simpa using hown, grown_refl w _, .inl rfl⟩
    rcases hown.2 with ⟨rfl, rfl⟩ | ⟨g, cap, cur, rfl, _, _, hnc, _⟩
    · simp [Builtin.append_, run_underlying ht, sizeOf, typeInfo, hi, Builtin.lenOf, Builtin.firstCells]
    · simp [Builtin.append_, run_underlying ht, sizeOf, typeInfo, hi, Builtin.lenOf, Builtin.firstCells, hnc, storeCells]
  | some ad =>
    have hcells : ∀ j x, news[j]? = some x → w.cell? (ad.add j) = some x := by
      intro j x hx
      have hne : news ≠ [] := by rintro rfl; simp at hx
      obtain ⟨ad', h, hc⟩ := hcell hne
      injection h with h
      subst h
      exact hc j x hx
    obtain ⟨v', w', hrun, h2, h3, _, h5⟩ := run_append_own_at (P := P) w base t ty e i z 1 bytes ht hi hz hsize hby hzs (by omega) v n xs hown ad news.length c news (by simp) hcells h1 (by simp only [maxLen]; omega) hbytes hbase
    exact ⟨v', w', hrun, h2, h3, h5⟩

theorem wpList_append_rd {P : Program} (w : World) {ops : Array Oper} {rest : List Oper} {o : Oper} {a : Act} {Q : Exit → Act → World → Prop} (hgd : o.guard = none) (s x : Operand) (t : TypeId)
    (ho : o.op = .call { callee := .builtin .append, args := #[s, x], argTypes := #[t, t] })
    (base : Nat) (e : TypeId) (i : TypeInfo) (z : Value) (bytes : Nat) (ht : P.underlying t = some (.slice e)) (hi : P.info? e = some i) (hz : i.zero = some z)
    (hsize : i.size = 1) (hby : i.bytes = bytes) (hzs : z.cells.size = 1)
    (v : Value) (n : Nat) (xs : List Value) (hs : a.eval s = v) (hown : w.ownsRow base e 1 v n xs)
    (u : Value) (news : List Value) (hx : a.eval x = u) (hr : Rd w u news) (h1 : ∀ x ∈ news, x.oneCell' = true)
    (hbytes : (n + news.length) * bytes ≤ 140737488355328) (h63 : n + news.length ≤ 140737488355328) (hbase : base ≤ w.heap.size)
    (h : ∀ v' w', w'.ownsRow base e 1 v' (n + news.length) (xs ++ news) → w.grownBy w' v.ownBlock → (v'.ownBlock = v.ownBlock ∨ v'.ownBlock = some w.heap.size) → wpList P ops Q rest (a.put o.dst v') w') : wpList P ops Q (o :: rest) a w := by
  obtain ⟨v', w', hrun, h2, h3, h4⟩ := run_append_rd (P := P) w base t o.type e i z bytes ht hi hz hsize hby hzs v n xs hown u news hr h1 hbytes h63 hbase
  exact Lib.wpList_append_run w hgd s x t t ho v u hs hx v' w' hrun (h v' w' h2 h3 h4)

theorem Rd.form {w : World} {v : Value} {xs : List Value} (h : Rd w v xs) : ∃ A c, v = .slice A xs.length c := by
  obtain ⟨A, c, hv, _⟩ := h
  exact ⟨A, c, hv⟩

theorem Rd.len {w : World} {A : Option Addr} {m c : Nat} {xs : List Value} (h : Rd w (.slice A m c) xs) : xs.length = m ∧ m ≤ c ∧ c ≤ maxLen := by
  obtain ⟨A', c', he, h1, h2, _⟩ := h
  injection he with e1 e2 e3
  subst e3 e2
  exact ⟨rfl, h1, h2⟩

theorem Rd.cells {w : World} {A : Option Addr} {m c : Nat} {xs : List Value} (h : Rd w (.slice A m c) xs) (hne : xs ≠ []) : ∃ ad : Addr, A = some ad ∧ ∀ j u, xs[j]? = some u → w.cell? (ad.add j) = some u := by
  obtain ⟨A', c', he, _, _, hc⟩ := h
  injection he with h1 h2 h3
  subst h1
  exact hc hne

theorem Rd.take {w : World} {A : Option Addr} {m c : Nat} {xs : List Value} (h : Rd w (.slice A m c) xs) {n d : Nat} (hn : n ≤ m) (hd : n ≤ d) (hdc : d ≤ c) : Rd w (.slice A n d) (xs.take n) := by
  obtain ⟨hl, hmc, hcm⟩ := h.len
  have hl2 : (xs.take n).length = n := by rw [List.length_take]; omega
  refine ⟨A, d, by rw [hl2], by omega, by omega, fun hne => ?_⟩
  obtain ⟨ad, rfl, hcl⟩ := h.cells (fun e => hne (by rw [e]; simp))
  refine ⟨ad, rfl, fun j u hu => hcl j u ?_⟩
  rw [List.getElem?_take] at hu
  split at hu
  · exact hu
  · cases hu

theorem Rd.drop {w : World} {A : Option Addr} {m c : Nat} {xs : List Value} (h : Rd w (.slice A m c) xs) {n : Nat} (hn : n ≤ m) : Rd w (.slice (A.map (fun x => x.add n)) (m - n) (c - n)) (xs.drop n) := by
  obtain ⟨hl, hmc, hcm⟩ := h.len
  have hl2 : (xs.drop n).length = m - n := by rw [List.length_drop, hl]
  refine ⟨A.map (fun x => x.add n), c - n, by rw [hl2], by omega, by omega, fun hne => ?_⟩
  obtain ⟨ad, rfl, hcl⟩ := h.cells (fun e => hne (by rw [e]; simp))
  refine ⟨ad.add n, rfl, fun j u hu => ?_⟩
  rw [add_add]
  exact hcl _ u (by rw [← hu, List.getElem?_drop])

theorem Rd.empty (w : World) (A : Option Addr) (c : Nat) (hc : c ≤ maxLen) : Rd w (.slice A 0 c) [] := ⟨A, c, rfl, Nat.zero_le _, hc, fun h => absurd rfl h⟩

theorem own_map (A : Option Addr) (n m c m' c' : Nat) : (Value.slice (A.map (fun x => x.add n)) m c).ownBlock = (Value.slice A m' c').ownBlock := by
  cases A with
  | none => rfl
  | some a => simp [Value.ownBlock, add_block]
theorem own_len (A : Option Addr) (m c m' c' : Nat) : (Value.slice A m c).ownBlock = (Value.slice A m' c').ownBlock := by
  cases A <;> rfl

/-- Bytes as values. -/
def byteV (c : UInt8) : Value := .int .u8 (c.toNat : Int)
def bytesV (l : List UInt8) : List Value := l.map byteV
theorem bytesV_len (l : List UInt8) : (bytesV l).length = l.length := by simp [bytesV]
theorem bytesV_app (a b : List UInt8) : bytesV (a ++ b) = bytesV a ++ bytesV b := by simp [bytesV]
theorem bytesV_one (l : List UInt8) : ∀ x ∈ bytesV l, x.oneCell' = true := by
  intro x hx
  obtain ⟨c, _, rfl⟩ := List.mem_map.1 hx
  rfl

theorem Rd.at_ {w : World} {A : Option Addr} {n c k : Nat} {l : List UInt8} (h : Rd w (.slice A n c) (bytesV l)) (hk : k < l.length) :
    ∃ ad y, A = some ad ∧ l.drop k = y :: l.drop (k + 1) ∧ w.cell? (ad.add k) = some (.int .u8 (y.toNat : Int)) := by
  obtain ⟨A', c', he, _, _, hc⟩ := h
  injection he with h1 h2 h3
  subst h1
  obtain ⟨ad, rfl, hcl⟩ := hc (by intro h; have := congrArg List.length h; rw [bytesV_len] at this; simp at this; subst this; simp at hk)
  exact ⟨ad, l[k], rfl, List.drop_eq_getElem_cons hk, hcl k _ (by simp [bytesV, byteV, List.getElem?_eq_getElem hk])⟩

theorem Rd.cellAt {w : World} {A : Option Addr} {n c k : Nat} {xs : List Value} (h : Rd w (.slice A n c) xs) (hk : k < n) :
    ∃ ad u, A = some ad ∧ xs[k]? = some u ∧ w.cell? (ad.add k) = some u := by
  obtain ⟨hl, _, _⟩ := h.len
  obtain ⟨ad, rfl, hc⟩ := h.cells (by rintro rfl; simp at hl; omega)
  have hk' : k < xs.length := by omega
  exact ⟨ad, xs[k], rfl, List.getElem?_eq_getElem hk', hc k _ (List.getElem?_eq_getElem hk')⟩

theorem Rd.one (w : World) (x : Value) (t : TypeId) : Rd (w.alloc (.cells #[x] t)) (.slice (some ⟨w.heap.size, 0, none⟩) 1 1) [x] :=
  ⟨_, 1, rfl, Nat.le_refl _, by decide, fun _ => ⟨_, rfl, cell_one_new w x t⟩⟩

/-- A row that has just been laid. -/
theorem Rd.new (w : World) (xs : List Value) (t : TypeId) (mk : Nat × Nat) (c : Nat) (h : xs.length ≤ c) (hc : c ≤ maxLen) :
    Rd (w.alloc (.cells xs.toArray t mk)) (.slice (some ⟨w.heap.size, 0, none⟩) xs.length c) xs := by
  refine ⟨_, c, rfl, h, hc, fun _ => ⟨_, rfl, fun j u hu => ?_⟩⟩
  have : (⟨w.heap.size, 0, none⟩ : Addr).add j = ⟨w.heap.size, j, none⟩ := by unfold Addr.add; split <;> simp_all
  rw [this, World.cell?_alloc_mark]
  simpa using hu
theorem Rd.alloc {w : World} {v : Value} {xs : List Value} (h : Rd w v xs) (o : Obj) : Rd (w.alloc o) v xs := h.grown0 (grown_alloc (grown_refl _ _) _)

/-- What a call answers that makes new bytes and turns nothing old. -/
def Out (w : World) (l : List UInt8) (e : Ending) (w' : World) : Prop :=
  ∃ v, e = .returned v ∧ Rd w' v (bytesV l) ∧ w.grownBy w' none ∧ ∀ b, v.ownBlock = some b → w.heap.size ≤ b ∧ b < w'.heap.size

end Go.Proofs.YtiakkfcjdmecdaaDoor

/-
  Whole rows of memory (of no program): a block that holds these cells; a store into it; an array taken out of it or laid into it whole.
-/
namespace Go.Proofs.YtiakkfcjdmecdaaDoor
set_option maxRecDepth 1000000
open Go.RowKit

/-- Block g holds these cells. -/
def Row (w : World) (g : Nat) (t : TypeId) (cs : List Value) : Prop := w.heap[g]? = some (.cells cs.toArray t (0, 0))

theorem Row.lt {w : World} {g : Nat} {t : TypeId} {cs : List Value} (h : Row w g t cs) : g < w.heap.size := (Array.getElem?_eq_some_iff.1 h).1
theorem Row.cell {w : World} {g : Nat} {t : TypeId} {cs : List Value} (h : Row w g t cs) {j : Nat} {u : Value} (hu : cs[j]? = some u) : w.cell? ⟨g, j, none⟩ = some u := by
  rw [cell_of_row w g j _ t _ h]
  simpa using hu
theorem Row.frozen {w : World} {g : Nat} {t : TypeId} {cs : List Value} (h : Row w g t cs) (j : Nat) : w.frozen? ⟨g, j, none⟩ = false := frozen_of_row w g j _ t h
theorem Row.grown {w w' : World} {g : Nat} {t : TypeId} {cs : List Value} {row : Option Nat} (h : Row w g t cs) (hg : w.grownBy w' row) (hne : some g ≠ row) : Row w' g t cs := (hg.block g h.lt hne).trans h
theorem Row.grown0 {w w' : World} {g : Nat} {t : TypeId} {cs : List Value} (h : Row w g t cs) (hg : w.grownBy w' none) : Row w' g t cs := h.grown hg (by simp)
theorem Row.set {w : World} {g : Nat} {t : TypeId} {cs : List Value} (h : Row w g t cs) (i : Nat) (v : Value) : Row (w.setCell ⟨g, i, none⟩ v) g t (cs.set i v) := by
  have := heap_setCell_same w g i _ t v h
  simpa [Row] using this
theorem grown_set (w : World) (g i : Nat) (v : Value) : w.grownBy (w.setCell ⟨g, i, none⟩ v) (some g) :=
  ⟨rfl, rfl, rfl, by simp, fun k _ hne => heap_setCell_other w _ k v (fun e => hne (by rw [e]))⟩
theorem Row.other {w : World} {g g' i : Nat} {t : TypeId} {cs : List Value} (h : Row w g t cs) (hne : g ≠ g') (v : Value) : Row (w.setCell ⟨g', i, none⟩ v) g t cs := h.grown (grown_set w g' i v) (by simpa using hne)
theorem Row.alloc {w : World} {g : Nat} {t : TypeId} {cs : List Value} (h : Row w g t cs) (o : Obj) : Row (w.alloc o) g t cs := h.grown0 (grown_alloc (grown_refl _ _) _)
theorem Row.new (w : World) (t : TypeId) (cs : List Value) : Row (w.alloc (.cells cs.toArray t)) w.heap.size t cs := heap_alloc_last w _
theorem Row.newAt (w : World) (t : TypeId) (cs : List Value) {g : Nat} (hg : w.heap.size = g) : Row (w.alloc (.cells cs.toArray t)) g t cs := by subst hg; exact Row.new w t cs
theorem Row.drew {w : World} {g : Nat} {t : TypeId} {cs : List Value} (h : Row w g t cs) : Row w.drew g t cs := h
theorem heap_drewN (w : World) (n : Nat) : (w.drewN n).heap = w.heap ∧ (w.drewN n).os = w.os ∧ (w.drewN n).tape = w.tape ∧ (w.drewN n).output = w.output := ⟨rfl, rfl, rfl, rfl⟩
theorem Row.drewN {w : World} {g : Nat} {t : TypeId} {cs : List Value} (h : Row w g t cs) (n : Nat) : Row (w.drewN n) g t cs := h
theorem grown_drewN {w w' : World} {row : Option Nat} (h : w.grownBy w' row) (n : Nat) : w.grownBy (w'.drewN n) row := ⟨h.os, h.tape, h.output, h.size, h.block⟩
theorem grown_setRow (w : World) (g : Nat) (cs : Array Value) : w.grownBy (w.setRow g cs) (some g) :=
  ⟨rfl, rfl, rfl, by simp, fun k _ hne => setRow_other w g k cs (fun e => hne (by rw [e]))⟩
theorem Row.setRow {w : World} {g : Nat} {t : TypeId} {cs : List Value} (h : Row w g t cs) (cs' : List Value) : Row (w.setRow g cs'.toArray) g t cs' := setRow_heap w g _ _ t _ h
/-- A block that is new since w may be turned. -/
theorem grown_own {w w1 w2 : World} {g : Nat} (h : w.grownBy w1 none) (k : w1.grownBy w2 (some g)) (hr : w.heap.size ≤ g) : w.grownBy w2 none :=
  grown_new h k (by rintro b e; cases e; exact hr)

section
variable {P : Program}
/-- A whole array (or struct) out of the middle of a block. -/
theorem run_load_part (w : World) (g o : Nat) (t ty : TypeId) (cs xs : List Value) (d : TypeDesc) (h : Row w g t cs) (hx : ∀ (j : Nat) u, xs[j]? = some u → cs[o + j]? = some u)
    (hu : P.underlying ty = some d) (hd : (match d with | .struct _ | .array _ _ => true | _ => false) = true) (hi : (P.info? ty).map (·.size) = some xs.length) :
    (loadVar ty ⟨g, o, none⟩).run P w = .ok (.agg xs.toArray) w := by
  have hl : (loadCells ⟨g, o, none⟩ xs.length).run P w = .ok xs.toArray w :=
    run_loadCells_list (P := P) w ⟨g, o, none⟩ xs (fun j v hv => by
      have hadd : (⟨g, o, none⟩ : Addr).add j = ⟨g, o + j, none⟩ := by unfold Addr.add; split <;> simp_all
      rw [hadd]
      exact h.cell (hx j v hv))
  cases hq : P.info? ty with
  | none => simp [hq] at hi
  | some i =>
    have hs : i.size = xs.length := by simpa [hq] using hi
    cases d <;> simp_all [loadVar, isAgg, run_underlying hu, sizeOf, typeInfo]
theorem run_loadAt_part (w : World) (g o : Nat) (t ty : TypeId) (cs xs : List Value) (d : TypeDesc) (h : Row w g t cs) (hx : ∀ (j : Nat) u, xs[j]? = some u → cs[o + j]? = some u)
    (hu : P.underlying ty = some d) (hd : (match d with | .struct _ | .array _ _ => true | _ => false) = true) (hi : (P.info? ty).map (·.size) = some xs.length) :
    (Instr.loadAt ty (.pointer (some ⟨g, o, none⟩))).run P w = .ok (.agg xs.toArray) w := by
  simp only [Instr.loadAt, Instr.sureAddr, Sem.run_bind, Sem.run_pure, Result.andThen]
  exact run_load_part w g o t ty cs xs d h hx hu hd hi
/-- A whole array (or struct) into the middle of a block. -/
theorem run_storeAt_part (w : World) (g o : Nat) (t ty : TypeId) (cs xs : List Value) (h : Row w g t cs) (hfit : o + xs.length ≤ cs.length) (h1 : ∀ x ∈ xs, x.oneCell' = true)
    (hi : (P.info? ty).map (·.size) = some xs.length) :
    (Instr.storeAt ty (.pointer (some ⟨g, o, none⟩)) (.agg xs.toArray)).run P w = .ok () (w.setRow g (cs.take o ++ xs ++ cs.drop (o + xs.length)).toArray) := by
  have := run_storeCells_at P g o t xs 0 cs.toArray w h (by simpa using hfit) h1
  simp only [Instr.storeAt, Instr.sureAddr, Sem.run_bind, Sem.run_pure, Result.andThen]
  cases hq : P.info? ty with
  | none => simp [hq] at hi
  | some i =>
    have hs : i.size = xs.length := by simpa [hq] using hi
    simp [storeVar, sizeOf, typeInfo, hq, Value.cells, hs, this]

/-- The same at an operation of the walk. -/
theorem wpList_load_part (w : World) {ops : Array Oper} {rest : List Oper} {o : Oper} {a : Act} {Q : Exit → Act → World → Prop} (hgd : o.guard = none) (x : Operand) (ty : TypeId) (ho : o.op = .load ty x)
    (g off : Nat) (t : TypeId) (cs xs : List Value) (d : TypeDesc) (hv : a.eval x = .pointer (some ⟨g, off, none⟩)) (hr : Row w g t cs) (hx : ∀ (j : Nat) u, xs[j]? = some u → cs[off + j]? = some u)
    (hu : P.underlying ty = some d) (hd : (match d with | .struct _ | .array _ _ => true | _ => false) = true) (hi : (P.info? ty).map (·.size) = some xs.length)
    (h : wpList P ops Q rest (a.put o.dst (.agg xs.toArray)) w) : wpList P ops Q (o :: rest) a w :=
  wpList_plain hgd fun _ hK => by
    have hrun := run_loadAt_part (P := P) w g off t ty cs xs d hr hx hu hd hi
    unfold Oper.wp execOp
    simp only [ho, hv, Sem.run_bind, hrun, Result.andThen_ok, Sem.run_pure]
    exact hK _ _ h
theorem wpList_store_part (w : World) {ops : Array Oper} {rest : List Oper} {o : Oper} {a : Act} {Q : Exit → Act → World → Prop} (hgd : o.guard = none) (hdst : o.dst = none) (x y : Operand) (ty : TypeId) (ho : o.op = .store ty x y)
    (g off : Nat) (t : TypeId) (cs xs : List Value) (hv : a.eval x = .pointer (some ⟨g, off, none⟩)) (hy : a.eval y = .agg xs.toArray) (hr : Row w g t cs) (hfit : off + xs.length ≤ cs.length) (h1 : ∀ x ∈ xs, x.oneCell' = true)
    (hi : (P.info? ty).map (·.size) = some xs.length)
    (h : ∀ w', Row w' g t (cs.take off ++ xs ++ cs.drop (off + xs.length)) → w.grownBy w' (some g) → wpList P ops Q rest a w') : wpList P ops Q (o :: rest) a w :=
  wpList_plain hgd fun _ hK => by
    have hrun := run_storeAt_part (P := P) w g off t ty cs xs hr hfit h1 hi
    unfold Oper.wp execOp
    simp only [ho, hv, hy, Sem.run_bind, hrun, Result.andThen_ok, Sem.run_pure]
    rw [Oper.upon_skip]
    refine hK _ _ ?_
    rw [hdst]
    exact h _ (hr.setRow _) (grown_setRow _ _ _)
/-- A whole block taken out, and laid in. -/
theorem wpList_load_row (w : World) {ops : Array Oper} {rest : List Oper} {o : Oper} {a : Act} {Q : Exit → Act → World → Prop} (hgd : o.guard = none) (x : Operand) (ty : TypeId) (ho : o.op = .load ty x)
    (g : Nat) (t : TypeId) (cs : List Value) (d : TypeDesc) (hv : a.eval x = .pointer (some ⟨g, 0, none⟩)) (hr : Row w g t cs)
    (hu : P.underlying ty = some d) (hd : (match d with | .struct _ | .array _ _ => true | _ => false) = true) (hi : (P.info? ty).map (·.size) = some cs.length)
    (h : wpList P ops Q rest (a.put o.dst (.agg cs.toArray)) w) : wpList P ops Q (o :: rest) a w :=
  wpList_load_part w hgd x ty ho g 0 t cs cs d hv hr (fun j u hu => by rw [Nat.zero_add]; exact hu) hu hd hi h
theorem wpList_store_row (w : World) {ops : Array Oper} {rest : List Oper} {o : Oper} {a : Act} {Q : Exit → Act → World → Prop} (hgd : o.guard = none) (hdst : o.dst = none) (x y : Operand) (ty : TypeId) (ho : o.op = .store ty x y)
    (g : Nat) (t : TypeId) (cs xs : List Value) (hv : a.eval x = .pointer (some ⟨g, 0, none⟩)) (hy : a.eval y = .agg xs.toArray) (hr : Row w g t cs) (hfit : xs.length = cs.length) (h1 : ∀ x ∈ xs, x.oneCell' = true)
    (hi : (P.info? ty).map (·.size) = some xs.length)
    (h : ∀ w', Row w' g t xs → w.grownBy w' (some g) → wpList P ops Q rest a w') : wpList P ops Q (o :: rest) a w :=
  wpList_store_part w hgd hdst x y ty ho g 0 t cs xs hv hy hr (by omega) h1 hi (fun w' hr' hg => by
    refine h w' ?_ hg
    rw [List.take_zero, List.nil_append, Nat.zero_add, hfit, List.drop_length, List.append_nil] at hr'
    exact hr')
/-- A result that lies in a block of its own. -/
theorem results_row {tmps : Array Value} {w : World} {f : Func} {d : Nat} {ty : TypeId} (hres : f.results = #[.cell d ty]) (g : Nat) (t : TypeId) (cs : List Value) (de : TypeDesc) (hv : tmps.getD d undef = .pointer (some ⟨g, 0, none⟩)) (hr : Row w g t cs)
    (hu : P.underlying ty = some de) (hd : (match de with | .struct _ | .array _ _ => true | _ => false) = true) (hi : (P.info? ty).map (·.size) = some cs.length) :
    (results f tmps).run P w = .ok (.agg cs.toArray) w := by
  have hl := run_load_part (P := P) w g 0 t ty cs cs de hr (fun j u hu => by rw [Nat.zero_add]; exact hu) hu hd hi
  simp only [results, hres]
  rw [Array.getD_eq_getD_getElem?] at hv
  simp [hv, asAddr, hl]
end
end Go.Proofs.YtiakkfcjdmecdaaDoor

/-
  A region that draws its order, whose operations read or make memory: walked once. Each operation's value is described by a predicate that lasts while memory grows; each operation is run in whatever world has come of the first one by growth, when the operations ahead of it have been run.
-/
namespace Go.Proofs.YtiakkfcjdmecdaaDoor
set_option maxRecDepth 1000000
open Go.RowKit

/-- The operations that bind operation o. -/
def depsOf (o : Oper) : List Nat := (o.after.toList.filter fun e => Region.binds .any e).map (·.on)

/-- Of the frame and the world in the midst of a region. -/
structure Mid (ops : Array Oper) (row : Option Nat) (w0 : World) (a0 : Act) (a : Act) (w : World) : Prop where
  grow : w0.grownBy w row
  size : a.tmps.size = a0.tmps.size
  defers : a.defers = a0.defers
  outer : ∀ t, (ops.all fun o => o.dst != some t) = true → a.eval (.tmp t) = a0.eval (.tmp t)

/-- What operation o leaves: a value of G in its slot, the world grown. -/
def Leaves (row : Option Nat) (o : Oper) (a : Act) (w : World) (G : Value → World → Prop) (a' : Act) (w' : World) : Prop :=
  ∃ v, a' = a.put o.dst v ∧ w.grownBy w' row ∧ G v w'

/-- G lasts. -/
def Lasts (row : Option Nat) (G : Value → World → Prop) : Prop := ∀ v w w', G v w → w.grownBy w' row → G v w'

/-- What is known of operation o's bounds. -/
def Deps (ops : Array Oper) (env : List (Value → World → Prop)) (o : Oper) (a : Act) (w : World) : Prop :=
  ∀ j ∈ depsOf o, ∀ (G : Value → World → Prop) (d : Tmp), env[j]? = some G → (ops[j]?).bind (fun o => o.dst) = some d → G (a.eval (.tmp d)) w

/-- The walk through a region's operations, one behind the other. -/
def Chain (P : Program) (ops : Array Oper) (Q : Exit → Act → World → Prop) (row : Option Nat) (w0 : World) (a0 : Act) : Nat → List Oper → List (Value → World → Prop) → Prop
  | _, [], env => ∀ a w, Mid ops row w0 a0 a w → (∀ (j : Nat) (G : Value → World → Prop) (d : Tmp), env[j]? = some G → (ops[j]?).bind (fun o => o.dst) = some d → G (a.eval (.tmp d)) w) → Q .normal a w
  | k, o :: rest, env => ∃ G, Lasts row G ∧ (∀ a w, Mid ops row w0 a0 a w → Deps ops env o a w → wpOp P ops Q k (Leaves row o a w G) a w) ∧ Chain P ops Q row w0 a0 (k + 1) rest (env ++ [G])

/-- No two operations write one slot; each is bound by earlier ones alone. -/
def fitB (ops : Array Oper) : Bool :=
  (List.range ops.size).all fun i => (List.range ops.size).all fun j =>
    (i == j || match ops[i]?, ops[j]? with
      | some o, some o' => !(o.dst.isSome && o.dst == o'.dst)
      | _, _ => true) && match ops[i]? with
      | some o => (depsOf o).all (· < i)
      | none => true

theorem fit_dst {ops : Array Oper} (h : fitB ops = true) {i j : Nat} {o o' : Oper} {d : Tmp} (hi : ops[i]? = some o) (hj : ops[j]? = some o') (hd : o.dst = some d) (hd' : o'.dst = some d) : i = j := by
  have hil : i < ops.size := by
    rcases Nat.lt_or_ge i ops.size with h | h
    · exact h
    · rw [Array.getElem?_eq_none h] at hi; cases hi
  have hjl : j < ops.size := by
    rcases Nat.lt_or_ge j ops.size with h | h
    · exact h
    · rw [Array.getElem?_eq_none h] at hj; cases hj
  simp only [fitB, List.all_eq_true, List.mem_range, Bool.and_eq_true, Bool.or_eq_true] at h
  have := (h i hil j hjl).1
  rcases this with h | h
  · simpa using h
  · rw [hi, hj] at h
    simp [hd, hd'] at h

theorem fit_dep {ops : Array Oper} (h : fitB ops = true) {i j : Nat} {o : Oper} (hi : ops[i]? = some o) (hj : j ∈ depsOf o) : j < i := by
  have hil : i < ops.size := by
    rcases Nat.lt_or_ge i ops.size with h | h
    · exact h
    · rw [Array.getElem?_eq_none h] at hi; cases hi
  simp only [fitB, List.all_eq_true, List.mem_range, Bool.and_eq_true] at h
  have := (h i hil i hil).2
  rw [hi] at this
  simpa using List.all_eq_true.1 this j hj

theorem eval_put_ne (a : Act) (dst : Option Tmp) (v : Value) (t : Tmp) (h : dst ≠ some t) : (a.put dst v).eval (.tmp t) = a.eval (.tmp t) :=
  Act.eval_put fun d hd e => h (by injection e with e; rw [hd, e])

theorem eval_put_eq (a : Act) (d : Tmp) (v : Value) (h : d < a.tmps.size) : (a.put (some d) v).eval (.tmp d) = v := by
  simp [Act.eval, Act.put, h]

theorem put_size (a : Act) (dst : Option Tmp) (v : Value) : (a.put dst v).tmps.size = a.tmps.size := by
  cases dst <;> simp [Act.put]

theorem put_defers (a : Act) (dst : Option Tmp) (v : Value) : (a.put dst v).defers = a.defers := by
  cases dst <;> rfl

theorem grown_trans' {a b c : World} {row : Option Nat} (h : a.grownBy b row) (k : b.grownBy c row) : a.grownBy c row :=
  ⟨k.os.trans h.os, k.tape.trans h.tape, k.output.trans h.output, Nat.le_trans h.size k.size, fun i hi hne => (k.block i (Nat.lt_of_lt_of_le hi h.size) hne).trans (h.block i hi hne)⟩

section
variable {P : Program} {ops : Array Oper} {Q : Exit → Act → World → Prop} {row : Option Nat} {w0 : World} {a0 : Act}

/-- What the chain says of each operation. -/
def AllGood (P : Program) (ops : Array Oper) (Q : Exit → Act → World → Prop) (row : Option Nat) (w0 : World) (a0 : Act) (G : List (Value → World → Prop)) : Prop :=
  G.length = ops.size ∧ (∀ g ∈ G, Lasts row g) ∧
  (∀ (i : Nat) (o : Oper) (g : Value → World → Prop), ops[i]? = some o → G[i]? = some g → ∀ a w, Mid ops row w0 a0 a w → Deps ops G o a w → wpOp P ops Q i (Leaves row o a w g) a w) ∧
  (∀ a w, Mid ops row w0 a0 a w → (∀ (j : Nat) (g : Value → World → Prop) (d : Tmp), G[j]? = some g → (ops[j]?).bind (fun o => o.dst) = some d → g (a.eval (.tmp d)) w) → Q .normal a w)

theorem chain_good : ∀ (l : List Oper) (k : Nat) (env : List (Value → World → Prop)), (∀ j : Nat, l[j]? = ops[k + j]?) → env.length = k → k ≤ ops.size → (∀ g ∈ env, Lasts row g) →
    (∀ (i : Nat) (o : Oper) (g : Value → World → Prop), ops[i]? = some o → env[i]? = some g → ∀ a w, Mid ops row w0 a0 a w → Deps ops env o a w → wpOp P ops Q i (Leaves row o a w g) a w) →
    Chain P ops Q row w0 a0 k l env → ∃ G, AllGood P ops Q row w0 a0 G := by
  intro l
  induction l with
  | nil =>
    intro k env hl hk hkz hlast hstep h
    refine ⟨env, ?_, hlast, hstep, h⟩
    have h1 : ∀ j, ops[k + j]? = none := fun j => by rw [← hl j]; rfl
    have hsz : ops.size ≤ k := by
      have := h1 0
      rw [Nat.add_zero] at this
      exact Array.getElem?_eq_none_iff.1 this
    omega
  | cons o rest ih =>
    intro k env hl hk hkz hlast hstep h
    obtain ⟨G, hG, hs, hc⟩ := h
    have ho : ops[k]? = some o := by
      have := hl 0
      simpa using this.symm
    have hkl : k < ops.size := by
      rcases Nat.lt_or_ge k ops.size with h | h
      · exact h
      · rw [Array.getElem?_eq_none h] at ho; cases ho
    refine ih (k + 1) (env ++ [G]) (fun j => ?_) (by simp [hk]) (by omega) (fun g hg => ?_) (fun i o' g hi hg a w hm hd => ?_) hc
    · have := hl (j + 1)
      simpa [Nat.add_assoc, Nat.add_comm 1 j] using this
    · rcases List.mem_append.1 hg with h | h
      · exact hlast g h
      · simp at h; subst h; exact hG
    · have hd' : Deps ops env o' a w := by
        intro j hj g' d hg' hdst
        refine hd j hj g' d ?_ hdst
        rw [List.getElem?_append_left (by rcases Nat.lt_or_ge j env.length with h | h; exact h; rw [List.getElem?_eq_none h] at hg'; cases hg')]
        exact hg'
      rcases Nat.lt_or_ge i k with hik | hik
      · refine hstep i o' g hi ?_ a w hm hd'
        rw [List.getElem?_append_left (by omega)] at hg
        exact hg
      · have hie : i = k := by
          rcases Nat.lt_or_ge i (k + 1) with h | h
          · omega
          · rw [List.getElem?_eq_none (by simp [hk]; omega)] at hg; cases hg
        subst hie
        have hg' : G = g := by
          rw [List.getElem?_append_right (by omega)] at hg
          simpa [hk] using hg
        subst hg'
        rw [ho] at hi
        injection hi with hi
        subst hi
        exact hs a w hm hd'

/-- What holds in the midst of a region, of those operations that are done. -/
def Inv (ops : Array Oper) (row : Option Nat) (w0 : World) (a0 : Act) (G : List (Value → World → Prop)) (listed : Array Bool) (a : Act) (w : World) : Prop :=
  listed.size = ops.size ∧ Mid ops row w0 a0 a w ∧
  ∀ (j : Nat) (g : Value → World → Prop) (d : Tmp), listed.getD j false = true → G[j]? = some g → (ops[j]?).bind (fun o => o.dst) = some d → g (a.eval (.tmp d)) w

theorem count_set (l : List Bool) (i : Nat) (h : l[i]? = some false) : (l.set i true).count false + 1 = l.count false := by
  induction l generalizing i with
  | nil => simp at h
  | cons b l ih =>
    cases i with
    | zero => simp at h; subst h; simp
    | succ i =>
      have := ih i (by simpa using h)
      cases b <;> simp <;> omega

theorem inv_any (hfit : fitB ops = true) (hslots : ∀ o ∈ ops, ∀ d, o.dst = some d → d < a0.tmps.size) {G : List (Value → World → Prop)} (hG : AllGood P ops Q row w0 a0 G) :
    ∀ (fuel : Nat) (listed : Array Bool) (a : Act) (w : World), listed.toList.count false ≤ fuel → Inv ops row w0 a0 G listed a w → wpAny P .any ops Q fuel listed a w := by
  obtain ⟨hGl, hlast, hstep, hend⟩ := hG
  have hdone : ∀ (listed : Array Bool) (a : Act) (w : World), Region.ready .any ops listed = [] → Inv ops row w0 a0 G listed a w → Q .normal a w := by
    intro listed a w hr ⟨hsz, hm, hg⟩
    -- all are listed: the least one that is not would be ready
    have hall : ∀ n j, j < n → j < ops.size → listed.getD j false = true := by
      intro n
      induction n with
      | zero => intro j hj; omega
      | succ n ih =>
        intro j hj hjs
        rcases Nat.lt_or_ge j n with h | h
        · exact ih j h hjs
        · have hjn : j = n := by omega
          subst hjn
          cases hb : listed.getD j false with
          | true => rfl
          | false =>
            exfalso
            have hin : j ∈ Region.ready .any ops listed := by
              unfold Region.ready
              rw [List.mem_filter, List.mem_range]
              refine ⟨hjs, ?_⟩
              have hjl : j < listed.size := by omega
              have h1 : listed.getD j true = false := by
                simp only [Array.getD, hjl, dite_true] at hb ⊢
                exact hb
              rw [h1, Array.getElem?_eq_getElem hjs]
              simp only [Bool.not_false, Option.map_some, Option.getD_some, Bool.true_and, Array.all_eq_true_iff_forall_mem]
              intro e he
              cases hbd : Region.binds .any e with
              | false => rfl
              | true =>
                have hmem : e.on ∈ depsOf ops[j] := by
                  unfold depsOf
                  rw [List.mem_map]
                  exact ⟨e, List.mem_filter.2 ⟨by simpa using he, hbd⟩, rfl⟩
                have hlt := fit_dep hfit (Array.getElem?_eq_getElem hjs) hmem
                rw [ih e.on hlt (by omega)]
                rfl
            rw [hr] at hin
            cases hin
    refine hend a w hm fun j g d hj hd => hg j g d ?_ hj hd
    refine hall (j + 1) j (by omega) ?_
    rcases Nat.lt_or_ge j ops.size with h | h
    · exact h
    · rw [Array.getElem?_eq_none h] at hd; cases hd
  intro fuel
  induction fuel with
  | zero =>
    intro listed a w hc hI
    have hr : Region.ready .any ops listed = [] := by
      rw [List.eq_nil_iff_forall_not_mem]
      intro j hj
      unfold Region.ready at hj
      rw [List.mem_filter, List.mem_range] at hj
      have hjl : j < listed.size := by rw [hI.1]; exact hj.1
      have h0 : listed.toList.count false = 0 := by omega
      have hnm := List.count_eq_zero.1 h0
      have : listed.getD j true = true := by
        simp only [Array.getD, hjl, dite_true]
        cases hb : listed[j] with
        | true => exact hb
        | false => exact absurd (by rw [← hb]; simp) hnm
      rw [this] at hj
      simp at hj
    exact ⟨hr, hdone listed a w hr hI⟩
  | succ fuel ih =>
    intro listed a w hc hI
    refine ⟨fun hr => hdone listed a w hr hI, fun i hi => ?_⟩
    unfold Region.ready at hi
    rw [List.mem_filter, List.mem_range] at hi
    obtain ⟨his, hi2⟩ := hi
    obtain ⟨hsz, hm, hg⟩ := hI
    have hil : i < listed.size := by omega
    have ho : ops[i]? = some ops[i] := Array.getElem?_eq_getElem his
    have hgi : G[i]? = some (G[i]'(by omega)) := List.getElem?_eq_getElem (by omega)
    rw [ho] at hi2
    simp only [Option.map_some, Option.getD_some, Bool.and_eq_true, Array.all_eq_true_iff_forall_mem] at hi2
    have hfalse : listed[i] = false := by
      have := hi2.1
      simp only [Array.getD, hil, dite_true] at this
      simpa using this
    have hdeps : Deps ops G ops[i] a w := by
      intro j hj g d hgj hd
      refine hg j g d ?_ hgj hd
      unfold depsOf at hj
      rw [List.mem_map] at hj
      obtain ⟨e, he, rfl⟩ := hj
      obtain ⟨he1, he2⟩ := List.mem_filter.1 he
      have := hi2.2 e (by simpa using he1)
      rw [he2] at this
      simpa using this
    refine wpOp_mono ?_ (hstep i _ _ ho hgi a w hm hdeps)
    rintro a' w' ⟨v, rfl, hgr, hv⟩
    refine ih _ _ _ ?_ ⟨by simp [hsz], ⟨grown_trans' hm.grow hgr, by rw [put_size]; exact hm.size, by rw [put_defers]; exact hm.defers, fun t ht => ?_⟩, fun j g d hj hgj hd => ?_⟩
    · have := count_set listed.toList i (by simp [hfalse, hil])
      rw [Array.toList_setIfInBounds]
      omega
    · rw [eval_put_ne]
      · exact hm.outer t ht
      · rw [Array.all_eq_true_iff_forall_mem] at ht
        simpa using ht ops[i] (Array.getElem_mem his)
    · by_cases hij : j = i
      · subst hij
        rw [hgi] at hgj
        injection hgj with hgj
        subst hgj
        rw [ho] at hd
        simp only [Option.bind_some] at hd
        rw [hd, eval_put_eq]
        · exact hv
        · rw [hm.size]; exact hslots _ (Array.getElem_mem his) d hd
      · have hjl : listed.getD j false = true := by
          rw [← hj]
          simp only [Array.getD_eq_getD_getElem?, Array.getElem?_setIfInBounds]
          rw [if_neg (fun e => hij e.symm)]
        have hv' := hg j g d hjl hgj hd
        rw [eval_put_ne]
        · exact hlast g (List.mem_of_getElem? hgj) _ _ _ hv' hgr
        · intro hdi
          cases hoj : ops[j]? with
          | none => rw [hoj] at hd; cases hd
          | some oj =>
            rw [hoj] at hd
            exact hij (fit_dst hfit hoj ho hd hdi)

/-- THE RULE. -/
theorem wp_region_grow {id : Nat} {l : List Oper} (hm : P.follows .mixedOrders = true) (hfit : fitB l.toArray = true) (hslots : (l.all fun o => match o.dst with | some d => decide (d < a0.tmps.size) | none => true) = true)
    (h : Chain P l.toArray Q row w0 a0 0 l []) : (Code.region id l.toArray true).wp P Q a0 w0 := by
  obtain ⟨G, hG⟩ := chain_good l 0 [] (fun j => by simp) rfl (Nat.zero_le _) (fun g hg => by cases hg) (fun i o g _ hg => by simp at hg) h
  refine wp_region_any hm ?_
  refine inv_any hfit ?_ hG _ _ _ _ ?_ ⟨by simp, ⟨⟨rfl, rfl, rfl, Nat.le_refl _, fun _ _ _ => rfl⟩, rfl, rfl, fun _ _ => rfl⟩, fun j g d hj => ?_⟩
  · intro o ho d hd
    have := List.all_eq_true.1 hslots o (by simpa using ho)
    rw [hd] at this
    simpa using this
  · simp
  · simp only [Array.getD_eq_getD_getElem?, Array.getElem?_replicate] at hj
    split at hj <;> simp at hj
end
end Go.Proofs.YtiakkfcjdmecdaaDoor

/-
  The steps of such a region, an operation each (of no layer).
-/
namespace Go.Proofs.YtiakkfcjdmecdaaDoor
set_option maxRecDepth 1000000
open Go.RowKit

/-- The chain, with what is known laid the other way round. -/
def Steps (P : Program) (ops : Array Oper) (Q : Exit → Act → World → Prop) (row : Option Nat) (w0 : World) (a0 : Act) : Nat → List Oper → List (Value → World → Prop) → Prop
  | _, [], env => ∀ a w, Mid ops row w0 a0 a w → (∀ (j : Nat) (G : Value → World → Prop) (d : Tmp), env.reverse[j]? = some G → (ops[j]?).bind (fun o => o.dst) = some d → G (a.eval (.tmp d)) w) → Q .normal a w
  | k, o :: rest, env => ∃ G, Lasts row G ∧ (∀ a w, Mid ops row w0 a0 a w → Deps ops env.reverse o a w → wpOp P ops Q k (Leaves row o a w G) a w) ∧ Steps P ops Q row w0 a0 (k + 1) rest (G :: env)

section
variable {P : Program} {ops : Array Oper} {Q : Exit → Act → World → Prop} {row : Option Nat} {w0 : World} {a0 : Act}

theorem chain_of_steps : ∀ (l : List Oper) (k : Nat) (env : List (Value → World → Prop)), Steps P ops Q row w0 a0 k l env → Chain P ops Q row w0 a0 k l env.reverse
  | [], _, _, h => h
  | o :: rest, k, env, ⟨G, h1, h2, h3⟩ => ⟨G, h1, h2, by
      have := chain_of_steps rest (k + 1) (G :: env) h3
      rwa [List.reverse_cons] at this⟩

theorem wp_region_steps {id : Nat} {l : List Oper} (row : Option Nat) (hm : P.follows .mixedOrders = true) (hfit : fitB l.toArray = true) (hslots : (l.all fun o => match o.dst with | some d => decide (d < a0.tmps.size) | none => true) = true)
    (h : Steps P l.toArray Q row w0 a0 0 l []) : (Code.region id l.toArray true).wp P Q a0 w0 :=
  wp_region_grow hm hfit hslots (chain_of_steps l 0 [] h)

def Is (u : Value) (v : Value) (_ : World) : Prop := v = u
def IsB (l : List UInt8) (v : Value) (w : World) : Prop := Rd w v (bytesV l)
theorem lasts_is (u : Value) : Lasts row (Is u) := fun _ _ _ h _ => h
theorem lasts_bytes (l : List UInt8) : Lasts none (IsB l) := fun _ _ _ h hg => Rd.grown0 h hg

theorem Deps.at_ {env : List (Value → World → Prop)} {o : Oper} {a : Act} {w : World} (h : Deps ops env o a w) (j : Nat) {G : Value → World → Prop} {d : Tmp} (hj : (depsOf o).contains j = true) (hG : env[j]? = some G)
    (hd : (ops[j]?).bind (fun o => o.dst) = some d) : G (a.eval (.tmp d)) w := h j (by simpa using hj) G d hG hd

/-- Operation o is wanted. -/
def Wanted (ops : Array Oper) (o : Oper) (a : Act) : Prop := Region.wanted o (yielded ops a.tmps) = true
theorem wanted_plain {o : Oper} {a : Act} (h : o.guard = none) : Wanted ops o a := by simp [Wanted, Region.wanted, h]
theorem wanted_at {o : Oper} {a : Act} {g : Nat} {b : Bool} {d : Tmp} {w : World} (h : o.guard = some (g, b)) (hd : (ops[g]?).bind (fun o => o.dst) = some d) (hv : Is (.bool b) (a.eval (.tmp d)) w) : Wanted ops o a := by
  have h1 : a.tmps[d]? = some (.bool b) := by
    have : a.tmps.getD d undef = .bool b := hv
    rw [Array.getD_eq_getD_getElem?] at this
    cases hx : a.tmps[d]? with
    | none => rw [hx] at this; simp [undef] at this
    | some y => rw [hx] at this; simpa using this
  simp [Wanted, Region.wanted, h, yielded, hd, h1]

/-- An operation that is no call: its value. -/
theorem Steps.val {env : List (Value → World → Prop)} {k : Nat} {o : Oper} {rest : List Oper} {G : Value → World → Prop} (hl : Lasts row G) (ho : ops[k]? = some o)
    (hs : ∀ a w, Mid ops row w0 a0 a w → Deps ops env.reverse o a w → Wanted ops o a ∧ ∃ v, (execOp a.eval o).run P w = .ok (.value v) w ∧ G v w)
    (hc : Steps P ops Q row w0 a0 (k + 1) rest (G :: env)) : Steps P ops Q row w0 a0 k (o :: rest) env := by
  refine ⟨G, hl, fun a w hm hd => ?_, hc⟩
  obtain ⟨hw, v, hr, hG⟩ := hs a w hm hd
  unfold wpOp
  rw [ho]
  simp only
  rw [if_pos (show Region.wanted o (yielded ops a.tmps) = true from hw)]
  refine .inl ?_
  unfold Oper.wp
  rw [hr, Oper.upon_value]
  exact ⟨v, rfl, grown_refl _ _, hG⟩

/-- An operation that is no call and makes memory. -/
theorem Steps.make {env : List (Value → World → Prop)} {k : Nat} {o : Oper} {rest : List Oper} {G : Value → World → Prop} (hl : Lasts row G) (ho : ops[k]? = some o)
    (hs : ∀ a w, Mid ops row w0 a0 a w → Deps ops env.reverse o a w → Wanted ops o a ∧ ∃ v w', (execOp a.eval o).run P w = .ok (.value v) w' ∧ w.grownBy w' row ∧ G v w')
    (hc : Steps P ops Q row w0 a0 (k + 1) rest (G :: env)) : Steps P ops Q row w0 a0 k (o :: rest) env := by
  refine ⟨G, hl, fun a w hm hd => ?_, hc⟩
  obtain ⟨hw, v, w', hr, hg, hG⟩ := hs a w hm hd
  unfold wpOp
  rw [ho]
  simp only
  rw [if_pos (show Region.wanted o (yielded ops a.tmps) = true from hw)]
  refine .inl ?_
  unfold Oper.wp
  rw [hr, Oper.upon_value]
  exact ⟨v, rfl, hg, hG⟩

/-- A call of a Go function. -/
theorem Steps.call {env : List (Value → World → Prop)} {k : Nat} {o : Oper} {rest : List Oper} {G : Value → World → Prop} (hl : Lasts row G) (ho : ops[k]? = some o) (f : FuncId)
    (hs : ∀ a w, Mid ops row w0 a0 a w → Deps ops env.reverse o a w → Wanted ops o a ∧ ∃ args, (execOp a.eval o).run P w = .ok (.enter f args) w ∧ Calls P f args w fun e w' => ∃ v, e = .returned v ∧ w.grownBy w' row ∧ G v w')
    (hc : Steps P ops Q row w0 a0 (k + 1) rest (G :: env)) : Steps P ops Q row w0 a0 k (o :: rest) env := by
  refine ⟨G, hl, fun a w hm hd => ?_, hc⟩
  obtain ⟨hw, args, hr, hC⟩ := hs a w hm hd
  unfold wpOp
  rw [ho]
  simp only
  rw [if_pos (show Region.wanted o (yielded ops a.tmps) = true from hw)]
  refine .inl ?_
  unfold Oper.wp
  rw [hr, Oper.upon_enter]
  refine hC.mono ?_
  rintro e w' ⟨v, rfl, hg, hG⟩
  exact ⟨v, rfl, hg, hG⟩
end

section
variable {P : Program} {o : Oper} {a : Act} {w : World}
theorem ex_move {x : Operand} (h : o.op = .move x) : (execOp a.eval o).run P w = .ok (.value (a.eval x)) w := by simp [execOp, h]
theorem ex_assign {x : Operand} (h : o.op = .assign x) : (execOp a.eval o).run P w = .ok (.value (a.eval x)) w := by simp [execOp, h]
theorem ex_pick {c x y : Operand} {v : Value} (h : o.op = .pick c x y) (hc : Is (.bool true) (a.eval c) w) (hx : Is v (a.eval x) w) : (execOp a.eval o).run P w = .ok (.value v) w := by
  have hc' : a.eval c = .bool true := hc
  have hx' : a.eval x = v := hx
  simp [execOp, h, hc', hx', asBool]
theorem ex_call {f : FuncId} {fn : Func} {xs : Array Operand} {ts : Array TypeId} (hf : P.funcs[f]? = some fn) (hname : (fn.name == "runtime.NumGoroutine") = false) (hb : fn.body.isSome = true)
    (h : o.op = .call { callee := .value (.func f), args := xs, argTypes := ts }) : (execOp a.eval o).run P w = .ok (.enter f (xs.map a.eval)) w := by
  have h1 : fn.name ≠ "runtime.NumGoroutine" := by simpa using hname
  obtain ⟨c, hc⟩ := Option.isSome_iff_exists.1 hb
  have h2 : ∀ args, (callFunc f args).run P w = .ok (.enter f args) w := fun args => by simp [callFunc, hf, h1, hc, mark]
  simp [execOp, h, resolve, invoke, Act.eval, Deferred.ofValue, h2]
theorem ex_call0 {f : FuncId} {fn : Func} {ts : Array TypeId} (hf : P.funcs[f]? = some fn) (hname : (fn.name == "runtime.NumGoroutine") = false) (hb : fn.body.isSome = true)
    (h : o.op = .call { callee := .value (.func f), args := #[], argTypes := ts }) : (execOp a.eval o).run P w = .ok (.enter f #[]) w := by
  simpa using ex_call (a := a) (w := w) hf hname hb h
theorem ex_call1 {f : FuncId} {fn : Func} {x0 : Operand} {ts : Array TypeId} (hf : P.funcs[f]? = some fn) (hname : (fn.name == "runtime.NumGoroutine") = false) (hb : fn.body.isSome = true)
    (h : o.op = .call { callee := .value (.func f), args := #[x0], argTypes := ts }) : (execOp a.eval o).run P w = .ok (.enter f #[a.eval x0]) w := by
  simpa using ex_call (a := a) (w := w) hf hname hb h
theorem ex_call2 {f : FuncId} {fn : Func} {x0 x1 : Operand} {ts : Array TypeId} (hf : P.funcs[f]? = some fn) (hname : (fn.name == "runtime.NumGoroutine") = false) (hb : fn.body.isSome = true)
    (h : o.op = .call { callee := .value (.func f), args := #[x0, x1], argTypes := ts }) : (execOp a.eval o).run P w = .ok (.enter f #[a.eval x0, a.eval x1]) w := by
  simpa using ex_call (a := a) (w := w) hf hname hb h
theorem ex_call3 {f : FuncId} {fn : Func} {x0 x1 x2 : Operand} {ts : Array TypeId} (hf : P.funcs[f]? = some fn) (hname : (fn.name == "runtime.NumGoroutine") = false) (hb : fn.body.isSome = true)
    (h : o.op = .call { callee := .value (.func f), args := #[x0, x1, x2], argTypes := ts }) : (execOp a.eval o).run P w = .ok (.enter f #[a.eval x0, a.eval x1, a.eval x2]) w := by
  simpa using ex_call (a := a) (w := w) hf hname hb h
theorem ex_call4 {f : FuncId} {fn : Func} {x0 x1 x2 x3 : Operand} {ts : Array TypeId} (hf : P.funcs[f]? = some fn) (hname : (fn.name == "runtime.NumGoroutine") = false) (hb : fn.body.isSome = true)
    (h : o.op = .call { callee := .value (.func f), args := #[x0, x1, x2, x3], argTypes := ts }) : (execOp a.eval o).run P w = .ok (.enter f #[a.eval x0, a.eval x1, a.eval x2, a.eval x3]) w := by
  simpa using ex_call (a := a) (w := w) hf hname hb h
theorem ex_call5 {f : FuncId} {fn : Func} {x0 x1 x2 x3 x4 : Operand} {ts : Array TypeId} (hf : P.funcs[f]? = some fn) (hname : (fn.name == "runtime.NumGoroutine") = false) (hb : fn.body.isSome = true)
    (h : o.op = .call { callee := .value (.func f), args := #[x0, x1, x2, x3, x4], argTypes := ts }) : (execOp a.eval o).run P w = .ok (.enter f #[a.eval x0, a.eval x1, a.eval x2, a.eval x3, a.eval x4]) w := by
  simpa using ex_call (a := a) (w := w) hf hname hb h
theorem ex_call6 {f : FuncId} {fn : Func} {x0 x1 x2 x3 x4 x5 : Operand} {ts : Array TypeId} (hf : P.funcs[f]? = some fn) (hname : (fn.name == "runtime.NumGoroutine") = false) (hb : fn.body.isSome = true)
    (h : o.op = .call { callee := .value (.func f), args := #[x0, x1, x2, x3, x4, x5], argTypes := ts }) : (execOp a.eval o).run P w = .ok (.enter f #[a.eval x0, a.eval x1, a.eval x2, a.eval x3, a.eval x4, a.eval x5]) w := by
  simpa using ex_call (a := a) (w := w) hf hname hb h
end
end Go.Proofs.YtiakkfcjdmecdaaDoor

/-
  Whole rows at the operations of a region that draws; a frame told slot by slot (of no program).
-/
namespace Go.Proofs.YtiakkfcjdmecdaaDoor
set_option maxRecDepth 1000000
open Go.RowKit

section
variable {P : Program} {o : Oper} {a : Act} {w : World}
theorem ex_load_part {x : Operand} {ty : TypeId} (ho : o.op = .load ty x) (g off : Nat) (t : TypeId) (cs xs : List Value) (d : TypeDesc) (hv : a.eval x = .pointer (some ⟨g, off, none⟩)) (hr : Row w g t cs) (hx : ∀ (j : Nat) u, xs[j]? = some u → cs[off + j]? = some u)
    (hu : P.underlying ty = some d) (hd : (match d with | .struct _ | .array _ _ => true | _ => false) = true) (hi : (P.info? ty).map (·.size) = some xs.length) :
    (execOp a.eval o).run P w = .ok (.value (.agg xs.toArray)) w := by
  have hrun := run_loadAt_part (P := P) w g off t ty cs xs d hr hx hu hd hi
  unfold execOp
  simp only [ho, hv, Sem.run_bind, hrun, Result.andThen_ok, Sem.run_pure]
theorem ex_load_row {x : Operand} {ty : TypeId} (ho : o.op = .load ty x) (g : Nat) (t : TypeId) (cs : List Value) (d : TypeDesc) (hv : a.eval x = .pointer (some ⟨g, 0, none⟩)) (hr : Row w g t cs)
    (hu : P.underlying ty = some d) (hd : (match d with | .struct _ | .array _ _ => true | _ => false) = true) (hi : (P.info? ty).map (·.size) = some cs.length) :
    (execOp a.eval o).run P w = .ok (.value (.agg cs.toArray)) w :=
  ex_load_part ho g 0 t cs cs d hv hr (fun j u hu => by rw [Nat.zero_add]; exact hu) hu hd hi
end

/-- A frame told slot by slot. -/
theorem act_of_slots {a : Act} {l : List Value} (hs : a.tmps.size = l.length) (hd : a.defers = []) (h : ∀ i, i < l.length → a.eval (.tmp i) = l.getD i undef) : a = ⟨l.toArray, []⟩ := by
  obtain ⟨tm, df⟩ := a
  simp only at hd hs
  subst hd
  congr 1
  apply Array.ext
  · simpa using hs
  · intro i h1 h2
    have := h i (by omega)
    simp only [Act.eval, Array.getD_eq_getD_getElem?, Array.getElem?_eq_getElem h1, List.getD_eq_getElem?_getD] at this
    rw [List.getElem?_eq_getElem (by omega)] at this
    simpa using this
end Go.Proofs.YtiakkfcjdmecdaaDoor

/-
  A region that draws its order, whose first n operations read or make memory, some of them turning one block each, and whose last ones follow in one order: walked once. Each operation's value is described by a predicate that lasts while the others go on.
-/
namespace Go.Proofs.YtiakkfcjdmecdaaDoor
set_option maxRecDepth 1000000
open Go.RowKit

/-- The operations that bind operation o. -/
def depsOn (o : Oper) : List Nat := (o.after.toList.filter fun e => Region.binds .any e).map (·.on)

/-- The block that operation i may turn: eff lists operations and blocks. -/
def rowAt : List (Nat × Nat) → Nat → Option Nat
  | [], _ => none
  | (e, g) :: r, i => if i = e then some g else rowAt r i
theorem rowAt_mem {eff : List (Nat × Nat)} {i g : Nat} (h : rowAt eff i = some g) : g ∈ eff.map (·.2) := by
  induction eff with
  | nil => cases h
  | cons p r ih =>
    obtain ⟨e, g'⟩ := p
    rw [rowAt] at h
    split at h
    · injection h with h; simp [h]
    · simp only [List.map_cons, List.mem_cons]
      exact .inr (ih h)

/-- Of what was there nothing has turned but the blocks S. -/
structure GrownX (S : List Nat) (w w' : World) : Prop where
  os : w'.os = w.os
  tape : w'.tape = w.tape
  output : w'.output = w.output
  size : w.heap.size ≤ w'.heap.size
  block : ∀ k, k < w.heap.size → k ∉ S → w'.heap[k]? = w.heap[k]?

theorem GrownX.refl (S : List Nat) (w : World) : GrownX S w w := ⟨rfl, rfl, rfl, Nat.le_refl _, fun _ _ _ => rfl⟩
theorem GrownX.step {eff : List (Nat × Nat)} {i : Nat} {w0 w w' : World} (h : GrownX (eff.map (·.2)) w0 w) (k : w.grownBy w' (rowAt eff i)) : GrownX (eff.map (·.2)) w0 w' :=
  ⟨k.os.trans h.os, k.tape.trans h.tape, k.output.trans h.output, Nat.le_trans h.size k.size, fun b hb hne => (k.block b (Nat.lt_of_lt_of_le hb h.size) (fun e => hne (rowAt_mem e.symm))).trans (h.block b hb hne)⟩
theorem GrownX.none {w w' : World} (h : GrownX [] w w') : w.grownBy w' none := ⟨h.os, h.tape, h.output, h.size, fun k hk _ => h.block k hk (by simp)⟩

/-- An operation that lays a new variable, whatever is known. -/
def isNew (o : Oper) : Bool := o.guard.isNone && match o.op with
  | .alloc _ => true
  | _ => false
theorem run_new {P : Program} {o : Oper} {a : Act} {w : World} (h : isNew o = true) :
    (∃ obj, (execOp a.eval o).run P w = .ok (.value (.pointer (some ⟨w.heap.size, 0, none⟩))) (w.alloc obj)) ∨ ∃ hh w', (execOp a.eval o).run P w = .halt hh w' := by
  unfold isNew at h
  simp only [Bool.and_eq_true] at h
  obtain ⟨_, h⟩ := h
  split at h
  · rename_i t ht
    cases hq : P.info? t with
    | none => exact .inr (by simp [execOp, ht, Instr.alloc, zeroValue, typeInfo, hq])
    | some i =>
      cases hz : i.zero with
      | none => exact .inr (by simp [execOp, ht, Instr.alloc, zeroValue, typeInfo, hq, hz])
      | some z => exact .inl ⟨.cells z.cells t, by simp [execOp, ht, Instr.alloc, zeroValue, typeInfo, hq, hz, newVar, newRow]⟩
  · cases h
/-- Of the frame and the world in the midst of a region. -/
structure Mid2 (ops : Array Oper) (n : Nat) (eff : List (Nat × Nat)) (w0 : World) (a0 : Act) (a : Act) (w : World) : Prop where
  grow : GrownX (eff.map (·.2)) w0 w
  size : a.tmps.size = a0.tmps.size
  defers : a.defers = a0.defers
  outer : ∀ t, ((ops.toList.take n).all fun o => o.dst != some t) = true → a.eval (.tmp t) = a0.eval (.tmp t)
  news : ∀ (i : Nat) (o : Oper) (d : Tmp), i < n → ops[i]? = some o → isNew o = true → o.dst = some d → a.eval (.tmp d) ≠ a0.eval (.tmp d) → ∃ g, a.eval (.tmp d) = .pointer (some ⟨g, 0, none⟩) ∧ g < w.heap.size
  apart : ∀ (i j : Nat) (oi oj : Oper) (di dj : Tmp), i ≠ j → i < n → j < n → ops[i]? = some oi → ops[j]? = some oj → isNew oi = true → isNew oj = true → oi.dst = some di → oj.dst = some dj →
    a.eval (.tmp di) ≠ a0.eval (.tmp di) → a.eval (.tmp dj) ≠ a0.eval (.tmp dj) → a.eval (.tmp di) ≠ a.eval (.tmp dj)

/-- What operation o leaves: a value of G in its slot, the world grown. -/
def Leaves2 (row : Option Nat) (o : Oper) (a : Act) (w : World) (G : Value → World → Prop) (a' : Act) (w' : World) : Prop :=
  ∃ v, a' = a.put o.dst v ∧ w.grownBy w' row ∧ G v w' ∧ (o.dst = none → v = undef)

/-- G lasts while a row may be turned. -/
def Stays (row : Option Nat) (G : Value → World → Prop) : Prop := ∀ v w w', G v w → w.grownBy w' row → G v w'
/-- G, of operation j, lasts while the others go on. -/
def StaysBut (eff : List (Nat × Nat)) (j : Nat) (G : Value → World → Prop) : Prop := ∀ i, i ≠ j → Stays (rowAt eff i) G

/-- The value that operation o has left. -/
def leftBy (o : Oper) (a : Act) : Value := match o.dst with
  | some d => a.eval (.tmp d)
  | none => undef

/-- What is known of what binds operation o. -/
def Deps2 (ops : Array Oper) (env : List (Value → World → Prop)) (o : Oper) (a : Act) (w : World) : Prop :=
  ∀ j ∈ depsOn o, ∀ (G : Value → World → Prop) (oj : Oper), env[j]? = some G → ops[j]? = some oj → G (leftBy oj a) w

/-- The world ahead of the operation that turns a block: that block is as it was. -/
def Ahead (eff : List (Nat × Nat)) (k : Nat) (w0 w : World) : Prop := ∀ g, rowAt eff k = some g → g < w0.heap.size → w.heap[g]? = w0.heap[g]?

/-- The walk through a region's first operations, one behind the other (what is known laid the other way round). -/
def Walk (P : Program) (ops : Array Oper) (Q : Exit → Act → World → Prop) (n : Nat) (eff : List (Nat × Nat)) (w0 : World) (a0 : Act) (tail : List Oper) : Nat → List Oper → List (Value → World → Prop) → Prop
  | _, [], env => ∀ a w, Mid2 ops n eff w0 a0 a w → (∀ (j : Nat) (G : Value → World → Prop) (oj : Oper), env.reverse[j]? = some G → ops[j]? = some oj → G (leftBy oj a) w) → wpList P ops Q tail a w
  | k, o :: rest, env => ∃ G, StaysBut eff k G ∧ (∀ a w, Mid2 ops n eff w0 a0 a w → Ahead eff k w0 w → Deps2 ops env.reverse o a w → wpOp P ops Q k (Leaves2 (rowAt eff k) o a w G) a w) ∧ Walk P ops Q n eff w0 a0 tail (k + 1) rest (G :: env)

/-- No two of the first n operations write one slot; each is bound by earlier ones alone; behind them all others follow in one order. -/
def fitHead (ops : Array Oper) (n : Nat) : Bool :=
  decide (n ≤ ops.size) &&
  ((List.range n).all fun i => (List.range n).all fun j =>
    (i == j || match ops[i]?, ops[j]? with
      | some o, some o' => !(o.dst.isSome && o.dst == o'.dst)
      | _, _ => true) && match ops[i]? with
      | some o => (depsOn o).all (· < i)
      | none => true) &&
  Region.seqB .any ops (ops.size - n) n (List.replicate n true ++ List.replicate (ops.size - n) false).toArray
/-- So, and all others are bound by all of the first n. -/
def fit2 (ops : Array Oper) (n : Nat) : Bool :=
  fitHead ops n &&
  ((List.range ops.size).all fun i => decide (i < n) || (List.range n).all fun j => match ops[i]? with
      | some o => (depsOn o).contains j
      | none => true)
/-- What these operations, of the first k, are bound by, and what binds that, and so on. -/
def marks (ops : Array Oper) : Nat → List Nat → List Nat
  | 0, S => S
  | k + 1, S => if S.contains k then marks ops k (match ops[k]? with | some o => depsOn o ++ S | none => S) else marks ops k S
/-- So, and all others are bound by all of the first n, through others or not. -/
def fit3 (ops : Array Oper) (n : Nat) : Bool :=
  fitHead ops n &&
  ((List.range ops.size).all fun i => decide (i < n) || match ops[i]? with
      | some o => (List.range n).all fun j => (marks ops n (depsOn o)).contains j
      | none => true)

theorem rowAt_nil (i : Nat) : rowAt [] i = none := rfl
theorem dis_nil : ∀ i j g, rowAt [] i = some g → rowAt [] j = some g → i = j := fun _ _ _ h => by cases h
theorem dis_one (e b : Nat) : ∀ i j g, rowAt [(e, b)] i = some g → rowAt [(e, b)] j = some g → i = j := by
  intro i j g hi hj
  simp only [rowAt] at hi hj
  split at hi
  · split at hj
    · omega
    · cases hj
  · cases hi
theorem dis_two {e b e' b' : Nat} (hb : b ≠ b') : ∀ i j g, rowAt [(e, b), (e', b')] i = some g → rowAt [(e, b), (e', b')] j = some g → i = j := by
  intro i j g hi hj
  simp only [rowAt] at hi hj
  split at hi <;> split at hj
  · omega
  · split at hj
    · simp at hi hj; omega
    · cases hj
  · split at hi
    · simp at hi hj; omega
    · cases hi
  · split at hi <;> split at hj
    · omega
    · cases hj
    · cases hi
    · cases hi

theorem grown_trans2 {a b c : World} {row : Option Nat} (h : a.grownBy b row) (k : b.grownBy c row) : a.grownBy c row :=
  ⟨k.os.trans h.os, k.tape.trans h.tape, k.output.trans h.output, Nat.le_trans h.size k.size, fun i hi hne => (k.block i (Nat.lt_of_lt_of_le hi h.size) hne).trans (h.block i hi hne)⟩

section
variable {P : Program} {ops : Array Oper} {Q : Exit → Act → World → Prop} {n : Nat} {eff : List (Nat × Nat)} {w0 : World} {a0 : Act} {tail : List Oper}

theorem lt_of_some {ops : Array Oper} {i : Nat} {o : Oper} (h : ops[i]? = some o) : i < ops.size := by
  rcases Nat.lt_or_ge i ops.size with hl | hl
  · exact hl
  · rw [Array.getElem?_eq_none hl] at h; cases h

theorem fit2_n (h : fitHead ops n = true) : n ≤ ops.size := by
  simp only [fitHead, Bool.and_eq_true, decide_eq_true_eq] at h
  exact h.1.1
theorem fit2_dst (h : fitHead ops n = true) {i j : Nat} {o o' : Oper} {d : Tmp} (hin : i < n) (hjn : j < n) (hi : ops[i]? = some o) (hj : ops[j]? = some o') (hd : o.dst = some d) (hd' : o'.dst = some d) : i = j := by
  simp only [fitHead, List.all_eq_true, List.mem_range, Bool.and_eq_true, Bool.or_eq_true] at h
  have := (h.1.2 i hin j hjn).1
  rcases this with h | h
  · simpa using h
  · rw [hi, hj] at h
    simp [hd, hd'] at h
theorem fit2_dep (h : fitHead ops n = true) {i j : Nat} {o : Oper} (hin : i < n) (hi : ops[i]? = some o) (hj : j ∈ depsOn o) : j < i := by
  simp only [fitHead, List.all_eq_true, List.mem_range, Bool.and_eq_true] at h
  have := (h.1.2 i hin i hin).2
  rw [hi] at this
  simpa using List.all_eq_true.1 this j hj
theorem fit2_seq (h : fitHead ops n = true) : Region.seqB .any ops (ops.size - n) n (List.replicate n true ++ List.replicate (ops.size - n) false).toArray = true := by
  simp only [fitHead, Bool.and_eq_true] at h
  exact h.2
/-- Whatever is done, what binds it is done. -/
def ClosedL (ops : Array Oper) (listed : Array Bool) : Prop := ∀ (i : Nat) (o : Oper), listed.getD i false = true → ops[i]? = some o → ∀ j ∈ depsOn o, listed.getD j false = true
/-- Where another one is ready, all of the first n are done. -/
def TailLate (ops : Array Oper) (n : Nat) : Prop :=
  ∀ (listed : Array Bool) (i : Nat) (o : Oper), ClosedL ops listed → ¬ i < n → ops[i]? = some o → (∀ j ∈ depsOn o, listed.getD j false = true) → ∀ j, j < n → listed.getD j false = true
theorem fit2_tail (h : fit2 ops n = true) : TailLate ops n := by
  intro listed i o _ hin hi hd j hj
  simp only [fit2, List.all_eq_true, List.mem_range, Bool.and_eq_true, Bool.or_eq_true, decide_eq_true_eq] at h
  rcases h.2 i (lt_of_some hi) with h | h
  · omega
  · have := h j hj
    rw [hi] at this
    exact hd j (by simpa using this)
theorem marks_done {listed : Array Bool} (hc : ClosedL ops listed) : ∀ (k : Nat) (S : List Nat), (∀ j ∈ S, listed.getD j false = true) → ∀ j ∈ marks ops k S, listed.getD j false = true
  | 0, S, h => h
  | k + 1, S, h => by
    intro j hj
    unfold marks at hj
    split at hj
    · rename_i hk
      refine marks_done hc k _ (fun x hx => ?_) j hj
      split at hx
      · rename_i o ho
        rcases List.mem_append.1 hx with hx | hx
        · exact hc k o (h k (by simpa using hk)) ho x hx
        · exact h x hx
      · exact h x hx
    · exact marks_done hc k S h j hj
theorem fit3_tail (h : fit3 ops n = true) : TailLate ops n := by
  intro listed i o hc hin hi hd j hj
  simp only [fit3, List.all_eq_true, List.mem_range, Bool.and_eq_true, Bool.or_eq_true, decide_eq_true_eq] at h
  rcases h.2 i (lt_of_some hi) with h | h
  · omega
  · rw [hi] at h
    have := List.all_eq_true.1 h j (List.mem_range.2 hj)
    exact marks_done hc n _ hd j (by simpa using this)

/-- What the walk says of each operation. -/
def Good2 (P : Program) (ops : Array Oper) (Q : Exit → Act → World → Prop) (n : Nat) (eff : List (Nat × Nat)) (w0 : World) (a0 : Act) (tail : List Oper) (G : List (Value → World → Prop)) : Prop :=
  G.length = n ∧ (∀ (j : Nat) (g : Value → World → Prop), G[j]? = some g → StaysBut eff j g) ∧
  (∀ (i : Nat) (o : Oper) (g : Value → World → Prop), ops[i]? = some o → G[i]? = some g → ∀ a w, Mid2 ops n eff w0 a0 a w → Ahead eff i w0 w → Deps2 ops G o a w → wpOp P ops Q i (Leaves2 (rowAt eff i) o a w g) a w) ∧
  (∀ a w, Mid2 ops n eff w0 a0 a w → (∀ (j : Nat) (g : Value → World → Prop) (oj : Oper), G[j]? = some g → ops[j]? = some oj → g (leftBy oj a) w) → wpList P ops Q tail a w)

theorem walk_good : ∀ (l : List Oper) (k : Nat) (env : List (Value → World → Prop)), (∀ (j : Nat) (o : Oper), l[j]? = some o → ops[k + j]? = some o) → k + l.length = n → env.length = k →
    (∀ (j : Nat) (g : Value → World → Prop), env.reverse[j]? = some g → StaysBut eff j g) →
    (∀ (i : Nat) (o : Oper) (g : Value → World → Prop), ops[i]? = some o → env.reverse[i]? = some g → ∀ a w, Mid2 ops n eff w0 a0 a w → Ahead eff i w0 w → Deps2 ops env.reverse o a w → wpOp P ops Q i (Leaves2 (rowAt eff i) o a w g) a w) →
    Walk P ops Q n eff w0 a0 tail k l env → ∃ G, Good2 P ops Q n eff w0 a0 tail G := by
  intro l
  induction l with
  | nil =>
    intro k env hl hn hk hlast hstep h
    exact ⟨env.reverse, by simp at hn ⊢; omega, hlast, hstep, h⟩
  | cons o rest ih =>
    intro k env hl hn hk hlast hstep h
    obtain ⟨G, hG, hs, hc⟩ := h
    have ho : ops[k]? = some o := by
      simpa using hl 0 o (by simp)
    have hlen : env.reverse.length = k := by simp [hk]
    have hold : ∀ (j : Nat) (g : Value → World → Prop), (G :: env).reverse[j]? = some g → (j < k ∧ env.reverse[j]? = some g) ∨ (j = k ∧ g = G) := by
      intro j g hg
      rw [List.reverse_cons] at hg
      rcases Nat.lt_or_ge j k with hjk | hjk
      · rw [List.getElem?_append_left (by omega)] at hg
        exact .inl ⟨hjk, hg⟩
      · rw [List.getElem?_append_right (by omega), hlen] at hg
        rcases Nat.lt_or_ge j (k + 1) with h | h
        · obtain rfl : j = k := by omega
          simp at hg
          exact .inr ⟨rfl, hg.symm⟩
        · rw [List.getElem?_eq_none (by simp; omega)] at hg; cases hg
    refine ih (k + 1) (G :: env) (fun j o' ho' => ?_) (by simp at hn; omega) (by simp [hk]) (fun j g hg => ?_) (fun i o' g hi hg a w hm ha hd => ?_) hc
    · have := hl (j + 1) o' (by simpa using ho')
      rwa [show k + 1 + j = k + (j + 1) by omega]
    · rcases hold j g hg with ⟨_, h⟩ | ⟨rfl, rfl⟩
      · exact hlast j g h
      · exact hG
    · have hd' : Deps2 ops env.reverse o' a w := by
        intro j hj g' d hg' hdst
        refine hd j hj g' d ?_ hdst
        rw [List.reverse_cons, List.getElem?_append_left (by rcases Nat.lt_or_ge j env.reverse.length with h | h; exact h; rw [List.getElem?_eq_none h] at hg'; cases hg')]
        exact hg'
      rcases hold i g hg with ⟨_, h⟩ | ⟨rfl, rfl⟩
      · exact hstep i o' g hi h a w hm ha hd'
      · rw [ho] at hi
        injection hi with hi
        subst hi
        exact hs a w hm ha hd'

/-- What holds in the midst of a region, of those operations that are done. -/
def Inv2 (ops : Array Oper) (n : Nat) (eff : List (Nat × Nat)) (w0 : World) (a0 : Act) (G : List (Value → World → Prop)) (listed : Array Bool) (a : Act) (w : World) : Prop :=
  listed.size = ops.size ∧ (∀ j, n ≤ j → listed.getD j false = false) ∧ Mid2 ops n eff w0 a0 a w ∧
  (∀ i g, rowAt eff i = some g → listed.getD i false = false → g < w0.heap.size → w.heap[g]? = w0.heap[g]?) ∧ ClosedL ops listed ∧
  ∀ (j : Nat) (g : Value → World → Prop) (oj : Oper), listed.getD j false = true → G[j]? = some g → ops[j]? = some oj → g (leftBy oj a) w

theorem count_set2 (l : List Bool) (i : Nat) (h : l[i]? = some false) : (l.set i true).count false + 1 = l.count false := by
  induction l generalizing i with
  | nil => simp at h
  | cons b l ih =>
    cases i with
    | zero => simp at h; subst h; simp
    | succ i =>
      have := ih i (by simpa using h)
      cases b <;> simp <;> omega

theorem eval_put_ne2 (a : Act) (dst : Option Tmp) (v : Value) (t : Tmp) (h : dst ≠ some t) : (a.put dst v).eval (.tmp t) = a.eval (.tmp t) :=
  Act.eval_put fun d hd e => h (by injection e with e; rw [hd, e])
theorem eval_put_eq2 (a : Act) (d : Tmp) (v : Value) (h : d < a.tmps.size) : (a.put (some d) v).eval (.tmp d) = v := by
  simp [Act.eval, Act.put, h]
theorem put_size2 (a : Act) (dst : Option Tmp) (v : Value) : (a.put dst v).tmps.size = a.tmps.size := by
  cases dst <;> simp [Act.put]
theorem put_defers2 (a : Act) (dst : Option Tmp) (v : Value) : (a.put dst v).defers = a.defers := by
  cases dst <;> rfl

theorem wpOp_new {i : Nat} {o : Oper} {K : Act → World → Prop} {a : Act} {w : World} (ho : ops[i]? = some o) (h : wpOp P ops Q i K a w) :
    wpOp P ops Q i (fun a' w' => K a' w' ∧ (isNew o = true → a' = a.put o.dst (.pointer (some ⟨w.heap.size, 0, none⟩)) ∧ w.heap.size < w'.heap.size)) a w := by
  by_cases hn : isNew o = true
  · have hg : o.guard = none := by
      unfold isNew at hn
      simp only [Bool.and_eq_true] at hn
      simpa using hn.1
    have hw : Region.wanted o (yielded ops a.tmps) = true := by simp [Region.wanted, hg]
    unfold wpOp at *
    rw [ho] at *
    simp only [hw, if_true] at *
    refine h.imp (fun h => ?_) id
    unfold Oper.wp at *
    rcases run_new (P := P) (a := a) (w := w) hn with ⟨obj, hr⟩ | ⟨hh, w', hr⟩
    · rw [hr] at h ⊢
      exact ⟨h, fun _ => ⟨rfl, by simp⟩⟩
    · rw [hr] at h ⊢
      cases hh <;> exact h
  · exact wpOp_mono (fun a' w' hk => ⟨hk, fun e => absurd e hn⟩) h

theorem inv_any2 (hdis : ∀ i j g, rowAt eff i = some g → rowAt eff j = some g → i = j) (hfit : fitHead ops n = true) (htail : TailLate ops n) (htl : ∀ j, tail[j]? = ops[n + j]?) (hslots : ∀ (i : Nat) (o : Oper) (d : Tmp), ops[i]? = some o → o.dst = some d → d < a0.tmps.size) {G : List (Value → World → Prop)} (hG : Good2 P ops Q n eff w0 a0 tail G) :
    ∀ (fuel : Nat) (listed : Array Bool) (a : Act) (w : World), listed.toList.count false = fuel → Inv2 ops n eff w0 a0 G listed a w → wpAny P .any ops Q fuel listed a w := by
  obtain ⟨hGl, hlast, hstep, hend⟩ := hG
  have hn := fit2_n hfit
  have htlen : tail.length = ops.size - n := by
    rcases Nat.lt_or_ge tail.length (ops.size - n) with h | h
    · have h1 := htl tail.length
      rw [List.getElem?_eq_none (Nat.le_refl _), Array.getElem?_eq_getElem (by omega)] at h1
      cases h1
    · rcases Nat.lt_or_ge (ops.size - n) tail.length with h' | h'
      · have h1 := htl (ops.size - n)
        rw [List.getElem?_eq_getElem h', Array.getElem?_eq_none (by omega)] at h1
        cases h1
      · omega
  -- the head is done: the tail follows in its order
  have hdone : ∀ (listed : Array Bool) (a : Act) (w : World), (∀ j, j < n → listed.getD j false = true) → Inv2 ops n eff w0 a0 G listed a w → wpAny P .any ops Q (ops.size - n) listed a w := by
    intro listed a w hall ⟨hsz, htf, hm, _, _, hg⟩
    have hl : listed = (List.replicate n true ++ List.replicate (ops.size - n) false).toArray := by
      apply Array.ext
      · simp [hsz]; omega
      · intro i h1 h2
        rcases Nat.lt_or_ge i n with h | h
        · have := hall i h
          simp only [Array.getD, h1, dite_true] at this
          rw [show listed[i] = true from this]
          simp [h]
        · have := htf i h
          simp only [Array.getD, h1, dite_true] at this
          rw [show listed[i] = false from this]
          simp [List.getElem_append, Nat.not_lt.2 h]
    have hw := hend a w hm fun j g oj hj hd => hg j g oj (hall j (by rcases Nat.lt_or_ge j G.length with h | h; omega; rw [List.getElem?_eq_none h] at hj; cases hj)) hj hd
    have := wpAny_of_seq (md := .any) (Q' := Q) tail n listed a w htl (by rw [htlen, hl]; exact fit2_seq hfit) hw
    rwa [htlen] at this
  have hcnt : ∀ listed : Array Bool, listed.size = ops.size → (∀ j, j < n → listed.getD j false = true) → (∀ j, n ≤ j → listed.getD j false = false) → listed.toList.count false = ops.size - n := by
    intro listed hsz hall htf
    have hl : listed = (List.replicate n true ++ List.replicate (ops.size - n) false).toArray := by
      apply Array.ext
      · simp [hsz]; omega
      · intro i h1 h2
        rcases Nat.lt_or_ge i n with h | h
        · have := hall i h
          simp only [Array.getD, h1, dite_true] at this
          rw [show listed[i] = true from this]
          simp [h]
        · have := htf i h
          simp only [Array.getD, h1, dite_true] at this
          rw [show listed[i] = false from this]
          simp [List.getElem_append, Nat.not_lt.2 h]
    rw [hl]
    simp [List.count_append, List.count_replicate]
  intro fuel
  induction fuel with
  | zero =>
    intro listed a w hc hI
    have hall : ∀ j, j < n → listed.getD j false = true := by
      intro j hj
      have hjl : j < listed.size := by rw [hI.1]; omega
      have hnm := List.count_eq_zero.1 hc
      cases hb : listed[j] with
      | true => simp [Array.getD, hjl]; exact hb
      | false => exact absurd (by rw [← hb]; simp) hnm
    have := hdone listed a w hall hI
    rwa [← hcnt listed hI.1 hall hI.2.1, hc] at this
  | succ fuel ih =>
    intro listed a w hc hI
    by_cases hall : ∀ j, j < n → listed.getD j false = true
    · have := hdone listed a w hall hI
      rwa [← hcnt listed hI.1 hall hI.2.1, hc] at this
    · obtain ⟨hsz, htf, hm, hahead, hcl, hg⟩ := hI
      -- the least one that is not done is ready
      have hex : ∃ j, j < n ∧ listed.getD j false = false ∧ ∀ i, i < j → listed.getD i false = true := by
        have h1 : ∃ j, j < n ∧ listed.getD j false = false := by
          rcases Classical.em (∃ j, j < n ∧ listed.getD j false = false) with h | h
          · exact h
          · exfalso
            apply hall
            intro j hj
            cases hb : listed.getD j false with
            | true => rfl
            | false => exact absurd ⟨j, hj, hb⟩ h
        have h2 : ∀ m, (∃ j, j < m ∧ j < n ∧ listed.getD j false = false) → ∃ j, j < n ∧ listed.getD j false = false ∧ ∀ i, i < j → listed.getD i false = true := by
          intro m
          induction m with
          | zero => rintro ⟨j, hj, _⟩; omega
          | succ m ihm =>
            rintro ⟨j, hj, hjn, hjf⟩
            by_cases hl : ∃ j, j < m ∧ j < n ∧ listed.getD j false = false
            · exact ihm hl
            · refine ⟨j, hjn, hjf, fun i hi => ?_⟩
              cases hb : listed.getD i false with
              | true => rfl
              | false => exact absurd ⟨i, by omega, by omega, hb⟩ hl
        obtain ⟨j, hj, hjf⟩ := h1
        exact h2 (j + 1) ⟨j, by omega, hj, hjf⟩
      obtain ⟨j0, hj0n, hj0f, hj0l⟩ := hex
      refine ⟨fun hr => ?_, fun i hi => ?_⟩
      · exfalso
        have hjs : j0 < ops.size := by omega
        have hin : j0 ∈ Region.ready .any ops listed := by
          unfold Region.ready
          rw [List.mem_filter, List.mem_range]
          refine ⟨hjs, ?_⟩
          have hjl : j0 < listed.size := by omega
          have h1 : listed.getD j0 true = false := by
            simp only [Array.getD, hjl, dite_true] at hj0f ⊢
            exact hj0f
          rw [h1, Array.getElem?_eq_getElem hjs]
          simp only [Bool.not_false, Option.map_some, Option.getD_some, Bool.true_and, Array.all_eq_true_iff_forall_mem]
          intro e he
          cases hbd : Region.binds .any e with
          | false => rfl
          | true =>
            have hmem : e.on ∈ depsOn ops[j0] := by
              unfold depsOn
              rw [List.mem_map]
              exact ⟨e, List.mem_filter.2 ⟨by simpa using he, hbd⟩, rfl⟩
            have hlt := fit2_dep hfit hj0n (Array.getElem?_eq_getElem hjs) hmem
            rw [hj0l e.on hlt]
            rfl
        rw [hr] at hin
        cases hin
      · unfold Region.ready at hi
        rw [List.mem_filter, List.mem_range] at hi
        obtain ⟨his, hi2⟩ := hi
        have hil : i < listed.size := by omega
        have ho : ops[i]? = some ops[i] := Array.getElem?_eq_getElem his
        rw [ho] at hi2
        simp only [Option.map_some, Option.getD_some, Bool.and_eq_true, Array.all_eq_true_iff_forall_mem] at hi2
        have hdl : ∀ j ∈ depsOn ops[i], listed.getD j false = true := by
          intro j hj
          unfold depsOn at hj
          rw [List.mem_map] at hj
          obtain ⟨e, he, rfl⟩ := hj
          obtain ⟨he1, he2⟩ := List.mem_filter.1 he
          have := hi2.2 e (by simpa using he1)
          rw [he2] at this
          simpa using this
        have hin : i < n := by
          rcases Nat.lt_or_ge i n with h | h
          · exact h
          · exfalso
            have := htail listed i _ hcl (by omega) ho hdl j0 hj0n
            rw [hj0f] at this
            cases this
        have hgi : G[i]? = some (G[i]'(by omega)) := List.getElem?_eq_getElem (by omega)
        have hfalse : listed[i] = false := by
          have := hi2.1
          simp only [Array.getD, hil, dite_true] at this
          simpa using this
        have hfalse' : listed.getD i false = false := by simp only [Array.getD, hil, dite_true]; exact hfalse
        have hdeps : Deps2 ops G ops[i] a w := fun j hj g oj hgj hd => hg j g oj (hdl j hj) hgj hd
        have hahd : Ahead eff i w0 w := fun g he hlt => hahead i g he hfalse' hlt
        refine wpOp_mono ?_ (wpOp_new ho (hstep i _ _ ho hgi a w hm hahd hdeps))
        rintro a' w' ⟨⟨v, rfl, hgr, hv, hlv⟩, hnew⟩
        have hother : ∀ (x : Nat) (ox : Oper) (d : Tmp), x < n → x ≠ i → ops[x]? = some ox → ox.dst = some d → (a.put ops[i].dst v).eval (.tmp d) = a.eval (.tmp d) := fun x ox d hxn hxi hox hd => by
          rw [eval_put_ne2]
          intro e
          exact hxi (fit2_dst hfit hxn hin hox ho hd e)
        have hself : ∀ d, ops[i].dst = some d → isNew ops[i] = true → (a.put ops[i].dst v).eval (.tmp d) = .pointer (some ⟨w.heap.size, 0, none⟩) ∧ w.heap.size < w'.heap.size := fun d hd hn => by
          obtain ⟨h1, h2⟩ := hnew hn
          rw [h1]
          refine ⟨?_, h2⟩
          rw [hd, eval_put_eq2]
          rw [hm.size]
          exact hslots i _ d ho hd
        have hset : ∀ j, j ≠ i → (listed.setIfInBounds i true).getD j false = listed.getD j false := by
          intro j hj
          simp only [Array.getD_eq_getD_getElem?, Array.getElem?_setIfInBounds]
          rw [if_neg (fun e => hj e.symm)]
        refine ih _ _ _ ?_ ⟨by simp [hsz], fun j hj => ?_, ⟨hm.grow.step hgr, by rw [put_size2]; exact hm.size, by rw [put_defers2]; exact hm.defers, fun t ht => ?_, fun x ox d hxn hox hxnew hd hne => ?_, fun x y ox oy dx dy hxy hxn hyn hox hoy hxnew hynew hdx hdy hnx hny => ?_⟩, fun e g he hel hlt => ?_, fun x ox hx hox j hj => ?_, fun j g oj hj hgj hd => ?_⟩
        · have := count_set2 listed.toList i (by simp [hfalse, hil])
          rw [Array.toList_setIfInBounds]
          omega
        · rw [hset j (by omega)]
          exact htf j hj
        · rw [eval_put_ne2]
          · exact hm.outer t ht
          · rw [List.all_eq_true] at ht
            have hmem : ops[i] ∈ ops.toList.take n := by
              rw [List.mem_iff_getElem?]
              exact ⟨i, by rw [List.getElem?_take, if_pos hin]; simp⟩
            simpa using ht ops[i] hmem
        · by_cases hxi : x = i
          · subst hxi
            rw [ho] at hox
            injection hox with hox
            subst hox
            obtain ⟨h1, h2⟩ := hself d hd hxnew
            exact ⟨_, h1, h2⟩
          · rw [hother x ox d hxn hxi hox hd] at hne ⊢
            obtain ⟨g, h1, h2⟩ := hm.news x ox d hxn hox hxnew hd hne
            exact ⟨g, h1, Nat.lt_of_lt_of_le h2 hgr.size⟩
        · by_cases hxi : x = i
          · subst hxi
            rw [ho] at hox
            injection hox with hox
            subst hox
            have h1 := (hself dx hdx hxnew).1
            rw [hother y oy dy hyn (fun e => hxy e.symm) hoy hdy] at hny ⊢
            obtain ⟨g, h2, h3⟩ := hm.news y oy dy hyn hoy hynew hdy hny
            rw [h1, h2]
            intro e
            injection e with e
            injection e with e
            injection e with e
            omega
          · by_cases hyi : y = i
            · subst hyi
              rw [ho] at hoy
              injection hoy with hoy
              subst hoy
              have h1 := (hself dy hdy hynew).1
              rw [hother x ox dx hxn hxi hox hdx] at hnx ⊢
              obtain ⟨g, h2, h3⟩ := hm.news x ox dx hxn hox hxnew hdx hnx
              rw [h1, h2]
              intro e
              injection e with e
              injection e with e
              injection e with e
              omega
            · rw [hother x ox dx hxn hxi hox hdx] at hnx ⊢
              rw [hother y oy dy hyn hyi hoy hdy] at hny ⊢
              exact hm.apart x y ox oy dx dy hxy hxn hyn hox hoy hxnew hynew hdx hdy hnx hny
        · have hie : e ≠ i := by
            rintro rfl
            simp only [Array.getD_eq_getD_getElem?, Array.getElem?_setIfInBounds] at hel
            simp [hil] at hel
          rw [hset e hie] at hel
          have hw := hahead e g he hel hlt
          rw [hgr.block g (Nat.lt_of_lt_of_le hlt hm.grow.size) (fun h => hie (hdis e i g he h.symm))]
          exact hw
        · have hdone : listed.getD j false = true := by
            by_cases hxi : x = i
            · subst hxi
              rw [ho] at hox
              injection hox with hox
              subst hox
              exact hdl j hj
            · rw [hset x hxi] at hx
              exact hcl x ox hx hox j hj
          have hji : j ≠ i := by
            rintro rfl
            rw [hfalse'] at hdone
            cases hdone
          rw [hset j hji]
          exact hdone
        · by_cases hij : j = i
          · subst hij
            rw [hgi] at hgj
            injection hgj with hgj
            subst hgj
            rw [ho] at hd
            injection hd with hd
            subst hd
            unfold leftBy
            cases hdd : ops[j].dst with
            | none => rw [hlv hdd] at hv; exact hv
            | some d =>
              simp only
              rw [eval_put_eq2]
              · exact hv
              · rw [hm.size]; exact hslots j _ d ho hdd
          · rw [hset j hij] at hj
            have hv' := hg j g oj hj hgj hd
            have hsame : leftBy oj (a.put ops[i].dst v) = leftBy oj a := by
              unfold leftBy
              cases hdj : oj.dst with
              | none => rfl
              | some d =>
                simp only
                rw [eval_put_ne2]
                intro hdi
                have hjn : j < n := by
                  rcases Nat.lt_or_ge j n with h | h
                  · exact h
                  · rw [htf j h] at hj; cases hj
                exact hij (fit2_dst hfit hjn hin hd ho hdj hdi)
            rw [hsame]
            exact hlast j g hgj i (fun e => hij e.symm) _ _ _ hv' hgr

/-- Every order of such a region. -/
theorem region_tail_any {l : List Oper} (n : Nat) (eff : List (Nat × Nat)) (hdis : ∀ i j g, rowAt eff i = some g → rowAt eff j = some g → i = j) (hfit : fitHead l.toArray n = true) (htail : TailLate l.toArray n) (hslots : (l.all fun o => match o.dst with | some d => decide (d < a0.tmps.size) | none => true) = true)
    (h : Walk P l.toArray Q n eff w0.drew a0 (l.drop n) 0 (l.take n) []) : wpAny P .any l.toArray Q l.toArray.size (Array.replicate l.toArray.size false) a0 { w0 with drawn := w0.drawn + 1 } := by
  have hn := fit2_n hfit
  have hn' : n ≤ l.length := by simpa using hn
  obtain ⟨G, hG⟩ := walk_good (l.take n) 0 [] (fun j o hj => by
      rw [List.getElem?_take] at hj
      split at hj
      · simpa using hj
      · cases hj) (by simp; omega) rfl (fun j g hg => by simp at hg) (fun i o g _ hg => by simp at hg) h
  refine inv_any2 (w0 := w0.drew) hdis hfit htail (fun j => by simp [List.getElem?_drop]) ?_ hG _ _ _ _ ?_ ⟨by simp, fun j _ => ?_, ⟨⟨rfl, rfl, rfl, Nat.le_refl _, fun _ _ _ => rfl⟩, rfl, rfl, fun _ _ => rfl, fun _ _ _ _ _ _ _ h => absurd rfl h, fun _ _ _ _ _ _ _ _ _ _ _ _ _ _ _ h => absurd rfl h⟩, fun _ _ _ _ _ => rfl, fun i o hi => ?_, fun j g oj hj => ?_⟩
  · intro i o d ho hd
    have hmem : o ∈ l := by
      have : l[i]? = some o := by simpa using ho
      exact List.mem_of_getElem? this
    have := List.all_eq_true.1 hslots o hmem
    rw [hd] at this
    simpa using this
  · simp
  · simp only [Array.getD_eq_getD_getElem?, Array.getElem?_replicate]
    split <;> rfl
  · simp only [Array.getD_eq_getD_getElem?, Array.getElem?_replicate] at hi
    split at hi <;> simp at hi
  · simp only [Array.getD_eq_getD_getElem?, Array.getElem?_replicate] at hj
    split at hj <;> simp at hj
theorem wp_region_tail {id : Nat} {l : List Oper} (n : Nat) (eff : List (Nat × Nat)) (hdis : ∀ i j g, rowAt eff i = some g → rowAt eff j = some g → i = j) (hm : P.follows .mixedOrders = true) (hfit : fitHead l.toArray n = true) (htail : TailLate l.toArray n) (hslots : (l.all fun o => match o.dst with | some d => decide (d < a0.tmps.size) | none => true) = true)
    (h : Walk P l.toArray Q n eff w0.drew a0 (l.drop n) 0 (l.take n) []) : (Code.region id l.toArray true).wp P Q a0 w0 :=
  wp_region_any hm (region_tail_any n eff hdis hfit htail hslots h)
/-- THE RULE. -/
theorem wp_region_walk {id : Nat} {l : List Oper} (n : Nat) (eff : List (Nat × Nat)) (hdis : ∀ i j g, rowAt eff i = some g → rowAt eff j = some g → i = j) (hm : P.follows .mixedOrders = true) (hfit : fit2 l.toArray n = true) (hslots : (l.all fun o => match o.dst with | some d => decide (d < a0.tmps.size) | none => true) = true)
    (h : Walk P l.toArray Q n eff w0.drew a0 (l.drop n) 0 (l.take n) []) : (Code.region id l.toArray true).wp P Q a0 w0 :=
  wp_region_tail n eff hdis hm (by simp only [fit2, Bool.and_eq_true] at hfit; exact hfit.1) (fit2_tail hfit) hslots h
/-- The same where the others are bound by the first n through one another. -/
theorem wp_region_walk3 {id : Nat} {l : List Oper} (n : Nat) (eff : List (Nat × Nat)) (hdis : ∀ i j g, rowAt eff i = some g → rowAt eff j = some g → i = j) (hm : P.follows .mixedOrders = true) (hfit : fit3 l.toArray n = true) (hslots : (l.all fun o => match o.dst with | some d => decide (d < a0.tmps.size) | none => true) = true)
    (h : Walk P l.toArray Q n eff w0.drew a0 (l.drop n) 0 (l.take n) []) : (Code.region id l.toArray true).wp P Q a0 w0 :=
  wp_region_tail n eff hdis hm (by simp only [fit3, Bool.and_eq_true] at hfit; exact hfit.1) (fit3_tail hfit) hslots h
end
end Go.Proofs.YtiakkfcjdmecdaaDoor

/-
  The steps of such a region, an operation each; the frame behind it.
-/
namespace Go.Proofs.YtiakkfcjdmecdaaDoor
set_option maxRecDepth 1000000
open Go.RowKit

section
variable {P : Program} {ops : Array Oper} {Q : Exit → Act → World → Prop} {n : Nat} {eff : List (Nat × Nat)} {w0 : World} {a0 : Act} {tail : List Oper}

theorem stays_is (u : Value) (j : Nat) : StaysBut eff j (Is u) := fun _ _ _ _ _ h _ => h
theorem stays_all {G : Value → World → Prop} (hn : Stays none G) (h : ∀ g ∈ eff.map (·.2), Stays (some g) G) (j : Nat) : StaysBut eff j G := by
  intro i _
  cases hr : rowAt eff i with
  | none => exact hn
  | some g => exact h g (rowAt_mem hr)
/-- Of an operation that turns block b: what it leaves lasts while no other block that is turned is b. -/
theorem stays_own {G : Value → World → Prop} (hdis : ∀ i j g, rowAt eff i = some g → rowAt eff j = some g → i = j) {k b : Nat} (hk : rowAt eff k = some b) (hn : Stays none G) (h : ∀ g ∈ eff.map (·.2), g ≠ b → Stays (some g) G) : StaysBut eff k G := by
  intro i hi
  cases hr : rowAt eff i with
  | none => exact hn
  | some g => exact h g (rowAt_mem hr) (fun e => hi (hdis i k g hr (by rw [e]; exact hk)))

theorem Deps2.at_ {env : List (Value → World → Prop)} {o : Oper} {a : Act} {w : World} (h : Deps2 ops env o a w) (j : Nat) {G : Value → World → Prop} {d : Tmp} {oj : Oper} (hj : (depsOn o).contains j = true) (hG : env[j]? = some G)
    (ho : ops[j]? = some oj) (hd : oj.dst = some d) : G (a.eval (.tmp d)) w := by
  have := h j (by simpa using hj) G oj hG ho
  unfold leftBy at this
  rw [hd] at this
  exact this
theorem left_at_ {o : Oper} {a : Act} {d : Tmp} (h : o.dst = some d) : leftBy o a = a.eval (.tmp d) := by unfold leftBy; rw [h]

/-- An operation that is no call: its value. -/
theorem Walk.val {env : List (Value → World → Prop)} {k : Nat} {o : Oper} {rest : List Oper} {G : Value → World → Prop} (hl : StaysBut eff k G) (ho : ops[k]? = some o) (hdst : o.dst.isSome = true)
    (hs : ∀ a w, Mid2 ops n eff w0 a0 a w → Deps2 ops env.reverse o a w → Wanted ops o a ∧ ∃ v, (execOp a.eval o).run P w = .ok (.value v) w ∧ G v w)
    (hc : Walk P ops Q n eff w0 a0 tail (k + 1) rest (G :: env)) : Walk P ops Q n eff w0 a0 tail k (o :: rest) env := by
  refine ⟨G, hl, fun a w hm _ hd => ?_, hc⟩
  obtain ⟨hw, v, hr, hG⟩ := hs a w hm hd
  unfold wpOp
  rw [ho]
  simp only
  rw [if_pos (show Region.wanted o (yielded ops a.tmps) = true from hw)]
  refine .inl ?_
  unfold Oper.wp
  rw [hr, Oper.upon_value]
  exact ⟨v, rfl, grown_refl _ _, hG, fun h => by rw [h] at hdst; cases hdst⟩

/-- A call of a Go function. -/
theorem Walk.call {env : List (Value → World → Prop)} {k : Nat} {o : Oper} {rest : List Oper} {G : Value → World → Prop} (hl : StaysBut eff k G) (ho : ops[k]? = some o) (f : FuncId) (hdst : o.dst.isSome = true)
    (hs : ∀ a w, Mid2 ops n eff w0 a0 a w → Ahead eff k w0 w → Deps2 ops env.reverse o a w → Wanted ops o a ∧ ∃ args, (execOp a.eval o).run P w = .ok (.enter f args) w ∧ Calls P f args w fun e w' => ∃ v, e = .returned v ∧ w.grownBy w' (rowAt eff k) ∧ G v w')
    (hc : Walk P ops Q n eff w0 a0 tail (k + 1) rest (G :: env)) : Walk P ops Q n eff w0 a0 tail k (o :: rest) env := by
  refine ⟨G, hl, fun a w hm ha hd => ?_, hc⟩
  obtain ⟨hw, args, hr, hC⟩ := hs a w hm ha hd
  unfold wpOp
  rw [ho]
  simp only
  rw [if_pos (show Region.wanted o (yielded ops a.tmps) = true from hw)]
  refine .inl ?_
  unfold Oper.wp
  rw [hr, Oper.upon_enter]
  refine hC.mono ?_
  rintro e w' ⟨v, rfl, hg, hG⟩
  exact ⟨v, rfl, hg, hG, fun h => by rw [h] at hdst; cases hdst⟩

/-- A store. -/
theorem Walk.store {env : List (Value → World → Prop)} {k : Nat} {o : Oper} {rest : List Oper} {G : World → Prop} (hl : StaysBut eff k (fun _ => G)) (ho : ops[k]? = some o)
    (hs : ∀ a w, Mid2 ops n eff w0 a0 a w → Ahead eff k w0 w → Deps2 ops env.reverse o a w → Wanted ops o a ∧ ∃ w', (execOp a.eval o).run P w = .ok .skip w' ∧ w.grownBy w' (rowAt eff k) ∧ G w')
    (hc : Walk P ops Q n eff w0 a0 tail (k + 1) rest ((fun _ => G) :: env)) : Walk P ops Q n eff w0 a0 tail k (o :: rest) env := by
  refine ⟨fun _ => G, hl, fun a w hm ha hd => ?_, hc⟩
  obtain ⟨hw, w', hr, hg, hG⟩ := hs a w hm ha hd
  unfold wpOp
  rw [ho]
  simp only
  rw [if_pos (show Region.wanted o (yielded ops a.tmps) = true from hw)]
  refine .inl ?_
  unfold Oper.wp
  rw [hr, Oper.upon_skip]
  exact ⟨undef, rfl, hg, hG, fun _ => rfl⟩

theorem foldl_put (f : Tmp → Value) (ds : List Tmp) (a : Act) : (ds.foldl (fun b d => b.put (some d) (f d)) a).tmps.size = a.tmps.size ∧ (ds.foldl (fun b d => b.put (some d) (f d)) a).defers = a.defers ∧
    ∀ t, t < a.tmps.size → (ds.foldl (fun b d => b.put (some d) (f d)) a).tmps[t]? = if t ∈ ds then some (f t) else a.tmps[t]? := by
  induction ds generalizing a with
  | nil => exact ⟨rfl, rfl, fun t _ => by simp⟩
  | cons d ds ih =>
    obtain ⟨h1, h2, h3⟩ := ih (a.put (some d) (f d))
    rw [List.foldl_cons]
    refine ⟨by rw [h1, put_size2], by rw [h2, put_defers2], fun t ht => ?_⟩
    rw [h3 t (by rw [put_size2]; exact ht)]
    by_cases hm : t ∈ ds
    · simp [hm]
    · by_cases he : t = d
      · subst he
        simp [hm, Act.put, ht]
      · have : (a.put (some d) (f d)).tmps[t]? = a.tmps[t]? := by
          simp only [Act.put, Array.getElem?_setIfInBounds]
          rw [if_neg (fun e => he e.symm)]
        simp [hm, he, this]

/-- The frame behind a region's head, written out. -/
theorem Mid2.frame {a : Act} {w : World} (h : Mid2 ops n eff w0 a0 a w) : a = ((ops.toList.take n).filterMap fun o => o.dst).foldl (fun b d => b.put (some d) (a.eval (.tmp d))) a0 := by
  obtain ⟨h1, h2, h3⟩ := foldl_put (fun d => a.eval (.tmp d)) ((ops.toList.take n).filterMap fun o => o.dst) a0
  have ht : a.tmps = (((ops.toList.take n).filterMap fun o => o.dst).foldl (fun b d => b.put (some d) (a.eval (.tmp d))) a0).tmps := by
    apply Array.ext_getElem?
    intro t
    rcases Nat.lt_or_ge t a0.tmps.size with hlt | hge
    · rw [h3 t hlt]
      have hlt' : t < a.tmps.size := by rw [h.size]; exact hlt
      have hev : a.tmps[t]? = some (a.eval (.tmp t)) := by simp [Act.eval, hlt']
      split
      · exact hev
      · rename_i hnm
        have := h.outer t (by
          rw [List.all_eq_true]
          intro o ho
          have : o.dst ≠ some t := fun e => hnm (List.mem_filterMap.2 ⟨o, ho, e⟩)
          simpa using this)
        rw [hev, this]
        simp [Act.eval, hlt]
    · rw [Array.getElem?_eq_none (by rw [h.size]; exact hge), Array.getElem?_eq_none (by rw [h1]; exact hge)]
  obtain ⟨tm, df⟩ := a
  have hd : df = _ := h.defers.trans h2.symm
  generalize hX : ((ops.toList.take n).filterMap fun o => o.dst).foldl (fun b d => b.put (some d) (Act.eval ⟨tm, df⟩ (.tmp d))) a0 = X at ht hd ⊢
  obtain ⟨tx, dx⟩ := X
  simp only at ht hd
  rw [ht, hd]
end
end Go.Proofs.YtiakkfcjdmecdaaDoor

/-
  Words that several layers have in common, of no program.
-/
namespace Go.Proofs.YtiakkfcjdmecdaaDoor
set_option maxRecDepth 1000000
open Go.RowKit

theorem bytesV_at (b : List UInt8) (k : Nat) (h : k < b.length) : (bytesV b)[k]? = some (.int .u8 ((b.getD k 0).toNat : Int)) := by simp [bytesV, byteV, List.getElem?_eq_getElem h]
def Val (v : Value) (w : World) (e : Ending) (w' : World) : Prop := e = .returned v ∧ w.grownBy w' none
def noughts8 (n : Nat) : List Value := List.replicate n (.int .u8 0)
theorem bytesV_set (l : List UInt8) (k : Nat) (x : UInt8) : (bytesV l).set k (byteV x) = bytesV (l.set k x) := by simp [bytesV, List.map_set]
theorem Row.rds {w : World} {g : Nat} {t : TypeId} {cs : List Value} (h : Row w g t cs) (n c : Nat) (hn : cs.length = n) (hc : n ≤ c) (hm : c ≤ maxLen) : Rd w (.slice (some ⟨g, 0, none⟩) n c) cs := by
  subst hn
  refine ⟨_, c, rfl, hc, hm, fun _ => ⟨_, rfl, fun j u hu => ?_⟩⟩
  have : (⟨g, 0, none⟩ : Addr).add j = ⟨g, j, none⟩ := by unfold Addr.add; split <;> simp_all
  rw [this]
  exact h.cell hu
theorem GrownX.none2 {w w' : World} (h : GrownX [] w.drew w') : w.grownBy w' Option.none := ⟨h.os, h.tape, h.output, h.size, fun k hk _ => h.block k hk (by simp)⟩
end Go.Proofs.YtiakkfcjdmecdaaDoor
