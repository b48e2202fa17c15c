/-
  Words for memory, of no program: a slice value that reads as a list of cells (nil let in), kept over whatever grows; append of such a slice onto a row of the call's own.
-/
import Derived.WalkKit
import Derived.WalkSpells
import Derived.WalkLawsBesides
import Derived.Lib.Hide
import Derived.Lib.AppendZeros
import Derived.Lib.SliceRun
import Derived.Deep.AppendLies
import Derived.KernelRfl
namespace Go.Proofs.Ytohndlfekecfoaa
set_option maxRecDepth 1000000
open Go.RowKit

theorem add_block (a : Addr) (n : Nat) : (a.add n).block = a.block := by unfold Addr.add; split <;> rfl

theorem add_add (a : Addr) (i j : Nat) : (a.add i).add j = a.add (i + j) := by
  unfold Addr.add
  by_cases hi : i = 0 <;> by_cases hj : j = 0 <;> simp [hi, hj, Nat.add_assoc]

/-- The slice value v reads, in world w, as the cells xs (of one cell each). -/
def Rd (w : World) (v : Value) (xs : List Value) : Prop :=
  ∃ A c, v = .slice A xs.length c ∧ xs.length ≤ c ∧ c ≤ maxLen ∧
    (xs ≠ [] → ∃ ad : Addr, A = some ad ∧ ∀ j u, xs[j]? = some u → w.cell? (ad.add j) = some u)

theorem Rd.nil (w : World) : Rd w (.slice none 0 0) [] := ⟨none, 0, rfl, Nat.le_refl _, Nat.zero_le _, fun h => absurd rfl h⟩

theorem Rd.keep {w w' : World} {v : Value} {xs : List Value} (h : Rd w v xs)
    (hk : ∀ b, v.ownBlock = some b → b < w.heap.size → w'.heap[b]? = w.heap[b]?) : Rd w' v xs := by
  obtain ⟨A, c, rfl, h1, h2, h3⟩ := h
  refine ⟨A, c, rfl, h1, h2, fun hne => ?_⟩
  obtain ⟨ad, rfl, hc⟩ := h3 hne
  refine ⟨ad, rfl, fun j u hu => ?_⟩
  have := hc j u hu
  have hlt := World.block_lt_of_cell? w _ this
  rw [← this]
  refine World.cell?_of_block ?_
  rw [add_block] at hlt ⊢
  exact hk _ rfl hlt

theorem Rd.grown {w w' : World} {v : Value} {xs : List Value} {row : Option Nat} (h : Rd w v xs) (hg : w.grownBy w' row)
    (hne : ∀ b, v.ownBlock = some b → some b ≠ row) : Rd w' v xs :=
  h.keep fun b hb hlt => hg.block b hlt (hne b hb)

theorem Rd.grown0 {w w' : World} {v : Value} {xs : List Value} (h : Rd w v xs) (hg : w.grownBy w' none) : Rd w' v xs :=
  h.grown hg fun _ _ => by simp

theorem Rd.of_own {w : World} {base : Nat} {e : TypeId} {v : Value} {n : Nat} {xs : List Value} (h : w.ownsRow base e 1 v n xs) : Rd w v xs := by
  have hl : xs.length = n := by simpa using h.1
  have hc := @World.ownsRow.cells _ _ _ _ _ _ _ h
  rcases h.2 with ⟨rfl, rfl⟩ | ⟨g, cap, cur, rfl, _, hg, hnc, hcm, hs, ht⟩
  · obtain rfl : xs = [] := List.eq_nil_of_length_eq_zero hl
    exact Rd.nil w
  · subst hl
    exact ⟨_, cap, rfl, hnc, hcm, fun _ => ⟨_, rfl, hc (g := g) rfl⟩⟩

theorem grown_refl (w : World) (row : Option Nat) : w.grownBy w row := ⟨rfl, rfl, rfl, Nat.le_refl _, fun _ _ _ => rfl⟩

theorem grown_none {w w' : World} (h : w.grownBy w' none) (row : Option Nat) : w.grownBy w' row :=
  ⟨h.os, h.tape, h.output, h.size, fun k hk _ => h.block k hk (by simp)⟩

/-- A step that may turn only a block that is new since w. -/
theorem grown_new {w w1 w2 : World} {row : Option Nat} (h : w.grownBy w1 none) (k : w1.grownBy w2 row) (hr : ∀ b, row = some b → w.heap.size ≤ b) : w.grownBy w2 none :=
  ⟨k.os.trans h.os, k.tape.trans h.tape, k.output.trans h.output, Nat.le_trans h.size k.size, fun i hi _ =>
    (k.block i (Nat.lt_of_lt_of_le hi h.size) (fun e => by have := hr i e.symm; omega)).trans (h.block i hi (by simp))⟩

theorem grown_drew {w w' : World} {row : Option Nat} (h : w.grownBy w' row) : w.grownBy w'.drew row := ⟨h.os, h.tape, h.output, h.size, h.block⟩

theorem grown_alloc {w w' : World} {row : Option Nat} (h : w.grownBy w' row) (o : Obj) : w.grownBy (w'.alloc o) row :=
  ⟨h.os, h.tape, h.output, Nat.le_trans h.size (by simp), fun i hi hne => (Below.heap_alloc w' o i (Nat.lt_of_lt_of_le hi h.size)).trans (h.block i hi hne)⟩

theorem grown_below {w w' : World} (h : w.grownBy w' none) : Below w.heap.size w w' :=
  ⟨h.os, h.tape, h.output, h.size, fun k hk => h.block k hk (by simp)⟩

theorem own_drew {w : World} {base : Nat} {e : TypeId} {size : Nat} {v : Value} {n : Nat} {xs : List Value} (h : w.ownsRow base e size v n xs) : w.drew.ownsRow base e size v n xs := h

/-- append of a slice that reads as 'news' onto a row of the call's own. -/
theorem run_append_rd {P : Program} (w : World) (base : Nat) (t ty e : TypeId) (i : TypeInfo) (z : Value) (bytes : Nat) (ht : P.underlying t = some (.slice e)) (hi : P.info? e = some i) (hz : i.zero = some z)
    (hsize : i.size = 1) (hby : i.bytes = bytes) (hzs : z.cells.size = 1)
    (v : Value) (n : Nat) (xs : List Value) (hown : w.ownsRow base e 1 v n xs)
    (u : Value) (news : List Value) (hr : Rd w u news) (h1 : ∀ x ∈ news, x.oneCell' = true)
    (hbytes : (n + news.length) * bytes ≤ 140737488355328) (h63 : n + news.length ≤ 140737488355328) (hbase : base ≤ w.heap.size) :
    ∃ v' w', (Builtin.append_ #[t, t] ty #[v, u]).run P w = .ok v' w' ∧ w'.ownsRow base e 1 v' (n + news.length) (xs ++ news) ∧ w.grownBy w' v.ownBlock ∧
      (v'.ownBlock = v.ownBlock ∨ v'.ownBlock = some w.heap.size) := by
  obtain ⟨A, c, rfl, hlc, hcm, hcell⟩ := hr
  cases A with
  | none =>
    have hn : news = [] := by
      rcases news with _ | ⟨x, news⟩
      · rfl
      · obtain ⟨ad, h, _⟩ := hcell (by simp); cases h
    subst hn
    refine ⟨v, w, ?_, by simpa using hown, grown_refl w _, .inl rfl⟩
    rcases hown.2 with ⟨rfl, rfl⟩ | ⟨g, cap, cur, rfl, _, _, hnc, _⟩
    · simp [Builtin.append_, run_underlying ht, sizeOf, typeInfo, hi, Builtin.lenOf, Builtin.firstCells]
    · simp [Builtin.append_, run_underlying ht, sizeOf, typeInfo, hi, Builtin.lenOf, Builtin.firstCells, hnc, storeCells]
  | some ad =>
    have hcells : ∀ j x, news[j]? = some x → w.cell? (ad.add j) = some x := by
      intro j x hx
      have hne : news ≠ [] := by rintro rfl; simp at hx
      obtain ⟨ad', h, hc⟩ := hcell hne
      injection h with h
      subst h
      exact hc j x hx
    obtain ⟨v', w', hrun, h2, h3, _, h5⟩ := run_append_own_at (P := P) w base t ty e i z 1 bytes ht hi hz hsize hby hzs (by omega) v n xs hown ad news.length c news (by simp) hcells h1 (by simp only [maxLen]; omega) hbytes hbase
    exact ⟨v', w', hrun, h2, h3, h5⟩

theorem wpList_append_rd {P : Program} (w : World) {ops : Array Oper} {rest : List Oper} {o : Oper} {a : Act} {Q : Exit → Act → World → Prop} (hgd : o.guard = none) (s x : Operand) (t : TypeId)
    (ho : o.op = .call { callee := .builtin .append, args := #[s, x], argTypes := #[t, t] })
    (base : Nat) (e : TypeId) (i : TypeInfo) (z : Value) (bytes : Nat) (ht : P.underlying t = some (.slice e)) (hi : P.info? e = some i) (hz : i.zero = some z)
    (hsize : i.size = 1) (hby : i.bytes = bytes) (hzs : z.cells.size = 1)
    (v : Value) (n : Nat) (xs : List Value) (hs : a.eval s = v) (hown : w.ownsRow base e 1 v n xs)
    (u : Value) (news : List Value) (hx : a.eval x = u) (hr : Rd w u news) (h1 : ∀ x ∈ news, x.oneCell' = true)
    (hbytes : (n + news.length) * bytes ≤ 140737488355328) (h63 : n + news.length ≤ 140737488355328) (hbase : base ≤ w.heap.size)
    (h : ∀ v' w', w'.ownsRow base e 1 v' (n + news.length) (xs ++ news) → w.grownBy w' v.ownBlock → (v'.ownBlock = v.ownBlock ∨ v'.ownBlock = some w.heap.size) → wpList P ops Q rest (a.put o.dst v') w') : wpList P ops Q (o :: rest) a w := by
  obtain ⟨v', w', hrun, h2, h3, h4⟩ := run_append_rd (P := P) w base t o.type e i z bytes ht hi hz hsize hby hzs v n xs hown u news hr h1 hbytes h63 hbase
  exact Lib.wpList_append_run w hgd s x t t ho v u hs hx v' w' hrun (h v' w' h2 h3 h4)

theorem Rd.form {w : World} {v : Value} {xs : List Value} (h : Rd w v xs) : ∃ A c, v = .slice A xs.length c := by
  obtain ⟨A, c, hv, _⟩ := h
  exact ⟨A, c, hv⟩

theorem Rd.len {w : World} {A : Option Addr} {m c : Nat} {xs : List Value} (h : Rd w (.slice A m c) xs) : xs.length = m ∧ m ≤ c ∧ c ≤ maxLen := by
  obtain ⟨A', c', he, h1, h2, _⟩ := h
  injection he with e1 e2 e3
  subst e3 e2
  exact ⟨rfl, h1, h2⟩

theorem Rd.cells {w : World} {A : Option Addr} {m c : Nat} {xs : List Value} (h : Rd w (.slice A m c) xs) (hne : xs ≠ []) : ∃ ad : Addr, A = some ad ∧ ∀ j u, xs[j]? = some u → w.cell? (ad.add j) = some u := by
  obtain ⟨A', c', he, _, _, hc⟩ := h
  injection he with h1 h2 h3
  subst h1
  exact hc hne

theorem Rd.take {w : World} {A : Option Addr} {m c : Nat} {xs : List Value} (h : Rd w (.slice A m c) xs) {n d : Nat} (hn : n ≤ m) (hd : n ≤ d) (hdc : d ≤ c) : Rd w (.slice A n d) (xs.take n) := by
  obtain ⟨hl, hmc, hcm⟩ := h.len
  have hl2 : (xs.take n).length = n := by rw [List.length_take]; omega
  refine ⟨A, d, by rw [hl2], by omega, by omega, fun hne => ?_⟩
  obtain ⟨ad, rfl, hcl⟩ := h.cells (fun e => hne (by rw [e]; simp))
  refine ⟨ad, rfl, fun j u hu => hcl j u ?_⟩
  rw [List.getElem?_take] at hu
  split at hu
  · exact hu
  · cases hu

theorem Rd.drop {w : World} {A : Option Addr} {m c : Nat} {xs : List Value} (h : Rd w (.slice A m c) xs) {n : Nat} (hn : n ≤ m) : Rd w (.slice (A.map (fun x => x.add n)) (m - n) (c - n)) (xs.drop n) := by
  obtain ⟨hl, hmc, hcm⟩ := h.len
  have hl2 : (xs.drop n).length = m - n := by rw [List.length_drop, hl]
  refine ⟨A.map (fun x => x.add n), c - n, by rw [hl2], by omega, by omega, fun hne => ?_⟩
  obtain ⟨ad, rfl, hcl⟩ := h.cells (fun e => hne (by rw [e]; simp))
  refine ⟨ad.add n, rfl, fun j u hu => ?_⟩
  rw [add_add]
  exact hcl _ u (by rw [← hu, List.getElem?_drop])

theorem Rd.empty (w : World) (A : Option Addr) (c : Nat) (hc : c ≤ maxLen) : Rd w (.slice A 0 c) [] := ⟨A, c, rfl, Nat.zero_le _, hc, fun h => absurd rfl h⟩

theorem own_map (A : Option Addr) (n m c m' c' : Nat) : (Value.slice (A.map (fun x => x.add n)) m c).ownBlock = (Value.slice A m' c').ownBlock := by
  cases A with
  | none => rfl
  | some a => simp [Value.ownBlock, add_block]
theorem own_len (A : Option Addr) (m c m' c' : Nat) : (Value.slice A m c).ownBlock = (Value.slice A m' c').ownBlock := by
  cases A <;> rfl

/-- Bytes as values. -/
def byteV (c : UInt8) : Value := .int .u8 (c.toNat : Int)
def bytesV (l : List UInt8) : List Value := l.map byteV
theorem bytesV_len (l : List UInt8) : (bytesV l).length = l.length := by simp [bytesV]
theorem bytesV_app (a b : List UInt8) : bytesV (a ++ b) = bytesV a ++ bytesV b := by simp [bytesV]
theorem bytesV_one (l : List UInt8) : ∀ x ∈ bytesV l, x.oneCell' = true := by
  intro x hx
  obtain ⟨c, _, rfl⟩ := List.mem_map.1 hx
  rfl

theorem Rd.at_ {w : World} {A : Option Addr} {n c k : Nat} {l : List UInt8} (h : Rd w (.slice A n c) (bytesV l)) (hk : k < l.length) :
    ∃ ad y, A = some ad ∧ l.drop k = y :: l.drop (k + 1) ∧ w.cell? (ad.add k) = some (.int .u8 (y.toNat : Int)) := by
  obtain ⟨A', c', he, _, _, hc⟩ := h
  injection he with h1 h2 h3
  subst h1
  obtain ⟨ad, rfl, hcl⟩ := hc (by intro h; have := congrArg List.length h; rw [bytesV_len] at this; simp at this; subst this; simp at hk)
  exact ⟨ad, l[k], rfl, List.drop_eq_getElem_cons hk, hcl k _ (by simp [bytesV, byteV, List.getElem?_eq_getElem hk])⟩

theorem Rd.cellAt {w : World} {A : Option Addr} {n c k : Nat} {xs : List Value} (h : Rd w (.slice A n c) xs) (hk : k < n) :
    ∃ ad u, A = some ad ∧ xs[k]? = some u ∧ w.cell? (ad.add k) = some u := by
  obtain ⟨hl, _, _⟩ := h.len
  obtain ⟨ad, rfl, hc⟩ := h.cells (by rintro rfl; simp at hl; omega)
  have hk' : k < xs.length := by omega
  exact ⟨ad, xs[k], rfl, List.getElem?_eq_getElem hk', hc k _ (List.getElem?_eq_getElem hk')⟩

theorem Rd.one (w : World) (x : Value) (t : TypeId) : Rd (w.alloc (.cells #[x] t)) (.slice (some ⟨w.heap.size, 0, none⟩) 1 1) [x] :=
  ⟨_, 1, rfl, Nat.le_refl _, by decide, fun _ => ⟨_, rfl, cell_one_new w x t⟩⟩

/-- A row that has just been laid. -/
theorem Rd.new (w : World) (xs : List Value) (t : TypeId) (mk : Nat × Nat) (c : Nat) (h : xs.length ≤ c) (hc : c ≤ maxLen) :
    Rd (w.alloc (.cells xs.toArray t mk)) (.slice (some ⟨w.heap.size, 0, none⟩) xs.length c) xs := by
  refine ⟨_, c, rfl, h, hc, fun _ => ⟨_, rfl, fun j u hu => ?_⟩⟩
  have : (⟨w.heap.size, 0, none⟩ : Addr).add j = ⟨w.heap.size, j, none⟩ := by unfold Addr.add; split <;> simp_all
  rw [this, World.cell?_alloc_mark]
  simpa using hu
theorem Rd.alloc {w : World} {v : Value} {xs : List Value} (h : Rd w v xs) (o : Obj) : Rd (w.alloc o) v xs := h.grown0 (grown_alloc (grown_refl _ _) _)

/-- What a call answers that makes new bytes and turns nothing old. -/
def Out (w : World) (l : List UInt8) (e : Ending) (w' : World) : Prop :=
  ∃ v, e = .returned v ∧ Rd w' v (bytesV l) ∧ w.grownBy w' none ∧ ∀ b, v.ownBlock = some b → w.heap.size ≤ b ∧ b < w'.heap.size

end Go.Proofs.Ytohndlfekecfoaa
