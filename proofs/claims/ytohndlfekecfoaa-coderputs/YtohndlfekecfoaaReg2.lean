/-
  A region that draws its order, whose first n operations read or make memory, some of them turning one block each, and whose last ones follow in one order: walked once. Each operation's value is described by a predicate that lasts while the others go on.
-/
import Derived.Test.YtohndlfekecfoaaBase
import Derived.StillTailTactics
namespace Go.Proofs.Ytohndlfekecfoaa
set_option maxRecDepth 1000000
open Go.RowKit

/-- The operations that bind operation o. -/
def depsOn (o : Oper) : List Nat := (o.after.toList.filter fun e => Region.binds .any e).map (·.on)

/-- The block that operation i may turn: eff lists operations and blocks. -/
def rowAt : List (Nat × Nat) → Nat → Option Nat
  | [], _ => none
  | (e, g) :: r, i => if i = e then some g else rowAt r i
theorem rowAt_mem {eff : List (Nat × Nat)} {i g : Nat} (h : rowAt eff i = some g) : g ∈ eff.map (·.2) := by
  induction eff with
  | nil => cases h
  | cons p r ih =>
    obtain ⟨e, g'⟩ := p
    rw [rowAt] at h
    split at h
    · injection h with h; simp [h]
    · simp only [List.map_cons, List.mem_cons]
      exact .inr (ih h)

/-- Of what was there nothing has turned but the blocks S. -/
structure GrownX (S : List Nat) (w w' : World) : Prop where
  os : w'.os = w.os
  tape : w'.tape = w.tape
  output : w'.output = w.output
  size : w.heap.size ≤ w'.heap.size
  block : ∀ k, k < w.heap.size → k ∉ S → w'.heap[k]? = w.heap[k]?

theorem GrownX.refl (S : List Nat) (w : World) : GrownX S w w := ⟨rfl, rfl, rfl, Nat.le_refl _, fun _ _ _ => rfl⟩
theorem GrownX.step {eff : List (Nat × Nat)} {i : Nat} {w0 w w' : World} (h : GrownX (eff.map (·.2)) w0 w) (k : w.grownBy w' (rowAt eff i)) : GrownX (eff.map (·.2)) w0 w' :=
  ⟨k.os.trans h.os, k.tape.trans h.tape, k.output.trans h.output, Nat.le_trans h.size k.size, fun b hb hne => (k.block b (Nat.lt_of_lt_of_le hb h.size) (fun e => hne (rowAt_mem e.symm))).trans (h.block b hb hne)⟩
theorem GrownX.none {w w' : World} (h : GrownX [] w w') : w.grownBy w' none := ⟨h.os, h.tape, h.output, h.size, fun k hk _ => h.block k hk (by simp)⟩

/-- An operation that lays a new variable, whatever is known. -/
def isNew (o : Oper) : Bool := o.guard.isNone && match o.op with
  | .alloc _ => true
  | _ => false
theorem run_new {P : Program} {o : Oper} {a : Act} {w : World} (h : isNew o = true) :
    (∃ obj, (execOp a.eval o).run P w = .ok (.value (.pointer (some ⟨w.heap.size, 0, none⟩))) (w.alloc obj)) ∨ ∃ hh w', (execOp a.eval o).run P w = .halt hh w' := by
  unfold isNew at h
  simp only [Bool.and_eq_true] at h
  obtain ⟨_, h⟩ := h
  split at h
  · rename_i t ht
    cases hq : P.info? t with
    | none => exact .inr (by simp [execOp, ht, Instr.alloc, zeroValue, typeInfo, hq])
    | some i =>
      cases hz : i.zero with
      | none => exact .inr (by simp [execOp, ht, Instr.alloc, zeroValue, typeInfo, hq, hz])
      | some z => exact .inl ⟨.cells z.cells t, by simp [execOp, ht, Instr.alloc, zeroValue, typeInfo, hq, hz, newVar, newRow]⟩
  · cases h
/-- Of the frame and the world in the midst of a region. -/
structure Mid2 (ops : Array Oper) (n : Nat) (eff : List (Nat × Nat)) (w0 : World) (a0 : Act) (a : Act) (w : World) : Prop where
  grow : GrownX (eff.map (·.2)) w0 w
  size : a.tmps.size = a0.tmps.size
  defers : a.defers = a0.defers
  outer : ∀ t, ((ops.toList.take n).all fun o => o.dst != some t) = true → a.eval (.tmp t) = a0.eval (.tmp t)
  news : ∀ (i : Nat) (o : Oper) (d : Tmp), i < n → ops[i]? = some o → isNew o = true → o.dst = some d → a.eval (.tmp d) ≠ a0.eval (.tmp d) → ∃ g, a.eval (.tmp d) = .pointer (some ⟨g, 0, none⟩) ∧ g < w.heap.size
  apart : ∀ (i j : Nat) (oi oj : Oper) (di dj : Tmp), i ≠ j → i < n → j < n → ops[i]? = some oi → ops[j]? = some oj → isNew oi = true → isNew oj = true → oi.dst = some di → oj.dst = some dj →
    a.eval (.tmp di) ≠ a0.eval (.tmp di) → a.eval (.tmp dj) ≠ a0.eval (.tmp dj) → a.eval (.tmp di) ≠ a.eval (.tmp dj)

/-- What operation o leaves: a value of G in its slot, the world grown. -/
def Leaves2 (row : Option Nat) (o : Oper) (a : Act) (w : World) (G : Value → World → Prop) (a' : Act) (w' : World) : Prop :=
  ∃ v, a' = a.put o.dst v ∧ w.grownBy w' row ∧ G v w' ∧ (o.dst = none → v = undef)

/-- G lasts while a row may be turned. -/
def Stays (row : Option Nat) (G : Value → World → Prop) : Prop := ∀ v w w', G v w → w.grownBy w' row → G v w'
/-- G, of operation j, lasts while the others go on. -/
def StaysBut (eff : List (Nat × Nat)) (j : Nat) (G : Value → World → Prop) : Prop := ∀ i, i ≠ j → Stays (rowAt eff i) G

/-- The value that operation o has left. -/
def leftBy (o : Oper) (a : Act) : Value := match o.dst with
  | some d => a.eval (.tmp d)
  | none => undef

/-- What is known of what binds operation o. -/
def Deps2 (ops : Array Oper) (env : List (Value → World → Prop)) (o : Oper) (a : Act) (w : World) : Prop :=
  ∀ j ∈ depsOn o, ∀ (G : Value → World → Prop) (oj : Oper), env[j]? = some G → ops[j]? = some oj → G (leftBy oj a) w

/-- The world ahead of the operation that turns a block: that block is as it was. -/
def Ahead (eff : List (Nat × Nat)) (k : Nat) (w0 w : World) : Prop := ∀ g, rowAt eff k = some g → g < w0.heap.size → w.heap[g]? = w0.heap[g]?

/-- The walk through a region's first operations, one behind the other (what is known laid the other way round). -/
def Walk (P : Program) (ops : Array Oper) (Q : Exit → Act → World → Prop) (n : Nat) (eff : List (Nat × Nat)) (w0 : World) (a0 : Act) (tail : List Oper) : Nat → List Oper → List (Value → World → Prop) → Prop
  | _, [], env => ∀ a w, Mid2 ops n eff w0 a0 a w → (∀ (j : Nat) (G : Value → World → Prop) (oj : Oper), env.reverse[j]? = some G → ops[j]? = some oj → G (leftBy oj a) w) → wpList P ops Q tail a w
  | k, o :: rest, env => ∃ G, StaysBut eff k G ∧ (∀ a w, Mid2 ops n eff w0 a0 a w → Ahead eff k w0 w → Deps2 ops env.reverse o a w → wpOp P ops Q k (Leaves2 (rowAt eff k) o a w G) a w) ∧ Walk P ops Q n eff w0 a0 tail (k + 1) rest (G :: env)

/-- No two of the first n operations write one slot; each is bound by earlier ones alone; behind them all others follow in one order. -/
def fitHead (ops : Array Oper) (n : Nat) : Bool :=
  decide (n ≤ ops.size) &&
  ((List.range n).all fun i => (List.range n).all fun j =>
    (i == j || match ops[i]?, ops[j]? with
      | some o, some o' => !(o.dst.isSome && o.dst == o'.dst)
      | _, _ => true) && match ops[i]? with
      | some o => (depsOn o).all (· < i)
      | none => true) &&
  Region.seqB .any ops (ops.size - n) n (List.replicate n true ++ List.replicate (ops.size - n) false).toArray
/-- So, and all others are bound by all of the first n. -/
def fit2 (ops : Array Oper) (n : Nat) : Bool :=
  fitHead ops n &&
  ((List.range ops.size).all fun i => decide (i < n) || (List.range n).all fun j => match ops[i]? with
      | some o => (depsOn o).contains j
      | none => true)
/-- What these operations, of the first k, are bound by, and what binds that, and so on. -/
def marks (ops : Array Oper) : Nat → List Nat → List Nat
  | 0, S => S
  | k + 1, S => if S.contains k then marks ops k (match ops[k]? with | some o => depsOn o ++ S | none => S) else marks ops k S
/-- So, and all others are bound by all of the first n, through others or not. -/
def fit3 (ops : Array Oper) (n : Nat) : Bool :=
  fitHead ops n &&
  ((List.range ops.size).all fun i => decide (i < n) || match ops[i]? with
      | some o => (List.range n).all fun j => (marks ops n (depsOn o)).contains j
      | none => true)

theorem rowAt_nil (i : Nat) : rowAt [] i = none := rfl
theorem dis_nil : ∀ i j g, rowAt [] i = some g → rowAt [] j = some g → i = j := fun _ _ _ h => by cases h
theorem dis_one (e b : Nat) : ∀ i j g, rowAt [(e, b)] i = some g → rowAt [(e, b)] j = some g → i = j := by
  intro i j g hi hj
  simp only [rowAt] at hi hj
  split at hi
  · split at hj
    · omega
    · cases hj
  · cases hi
theorem dis_two {e b e' b' : Nat} (hb : b ≠ b') : ∀ i j g, rowAt [(e, b), (e', b')] i = some g → rowAt [(e, b), (e', b')] j = some g → i = j := by
  intro i j g hi hj
  simp only [rowAt] at hi hj
  split at hi <;> split at hj
  · omega
  · split at hj
    · simp at hi hj; omega
    · cases hj
  · split at hi
    · simp at hi hj; omega
    · cases hi
  · split at hi <;> split at hj
    · omega
    · cases hj
    · cases hi
    · cases hi

theorem grown_trans2 {a b c : World} {row : Option Nat} (h : a.grownBy b row) (k : b.grownBy c row) : a.grownBy c row :=
  ⟨k.os.trans h.os, k.tape.trans h.tape, k.output.trans h.output, Nat.le_trans h.size k.size, fun i hi hne => (k.block i (Nat.lt_of_lt_of_le hi h.size) hne).trans (h.block i hi hne)⟩

section
variable {P : Program} {ops : Array Oper} {Q : Exit → Act → World → Prop} {n : Nat} {eff : List (Nat × Nat)} {w0 : World} {a0 : Act} {tail : List Oper}

theorem lt_of_some {ops : Array Oper} {i : Nat} {o : Oper} (h : ops[i]? = some o) : i < ops.size := by
  rcases Nat.lt_or_ge i ops.size with hl | hl
  · exact hl
  · rw [Array.getElem?_eq_none hl] at h; cases h

theorem fit2_n (h : fitHead ops n = true) : n ≤ ops.size := by
  simp only [fitHead, Bool.and_eq_true, decide_eq_true_eq] at h
  exact h.1.1
theorem fit2_dst (h : fitHead ops n = true) {i j : Nat} {o o' : Oper} {d : Tmp} (hin : i < n) (hjn : j < n) (hi : ops[i]? = some o) (hj : ops[j]? = some o') (hd : o.dst = some d) (hd' : o'.dst = some d) : i = j := by
  simp only [fitHead, List.all_eq_true, List.mem_range, Bool.and_eq_true, Bool.or_eq_true] at h
  have := (h.1.2 i hin j hjn).1
  rcases this with h | h
  · simpa using h
  · rw [hi, hj] at h
    simp [hd, hd'] at h
theorem fit2_dep (h : fitHead ops n = true) {i j : Nat} {o : Oper} (hin : i < n) (hi : ops[i]? = some o) (hj : j ∈ depsOn o) : j < i := by
  simp only [fitHead, List.all_eq_true, List.mem_range, Bool.and_eq_true] at h
  have := (h.1.2 i hin i hin).2
  rw [hi] at this
  simpa using List.all_eq_true.1 this j hj
theorem fit2_seq (h : fitHead ops n = true) : Region.seqB .any ops (ops.size - n) n (List.replicate n true ++ List.replicate (ops.size - n) false).toArray = true := by
  simp only [fitHead, Bool.and_eq_true] at h
  exact h.2
/-- Whatever is done, what binds it is done. -/
def ClosedL (ops : Array Oper) (listed : Array Bool) : Prop := ∀ (i : Nat) (o : Oper), listed.getD i false = true → ops[i]? = some o → ∀ j ∈ depsOn o, listed.getD j false = true
/-- Where another one is ready, all of the first n are done. -/
def TailLate (ops : Array Oper) (n : Nat) : Prop :=
  ∀ (listed : Array Bool) (i : Nat) (o : Oper), ClosedL ops listed → ¬ i < n → ops[i]? = some o → (∀ j ∈ depsOn o, listed.getD j false = true) → ∀ j, j < n → listed.getD j false = true
theorem fit2_tail (h : fit2 ops n = true) : TailLate ops n := by
  intro listed i o _ hin hi hd j hj
  simp only [fit2, List.all_eq_true, List.mem_range, Bool.and_eq_true, Bool.or_eq_true, decide_eq_true_eq] at h
  rcases h.2 i (lt_of_some hi) with h | h
  · omega
  · have := h j hj
    rw [hi] at this
    exact hd j (by simpa using this)
theorem marks_done {listed : Array Bool} (hc : ClosedL ops listed) : ∀ (k : Nat) (S : List Nat), (∀ j ∈ S, listed.getD j false = true) → ∀ j ∈ marks ops k S, listed.getD j false = true
  | 0, S, h => h
  | k + 1, S, h => by
    intro j hj
    unfold marks at hj
    split at hj
    · rename_i hk
      refine marks_done hc k _ (fun x hx => ?_) j hj
      split at hx
      · rename_i o ho
        rcases List.mem_append.1 hx with hx | hx
        · exact hc k o (h k (by simpa using hk)) ho x hx
        · exact h x hx
      · exact h x hx
    · exact marks_done hc k S h j hj
theorem fit3_tail (h : fit3 ops n = true) : TailLate ops n := by
  intro listed i o hc hin hi hd j hj
  simp only [fit3, List.all_eq_true, List.mem_range, Bool.and_eq_true, Bool.or_eq_true, decide_eq_true_eq] at h
  rcases h.2 i (lt_of_some hi) with h | h
  · omega
  · rw [hi] at h
    have := List.all_eq_true.1 h j (List.mem_range.2 hj)
    exact marks_done hc n _ hd j (by simpa using this)

/-- What the walk says of each operation. -/
def Good2 (P : Program) (ops : Array Oper) (Q : Exit → Act → World → Prop) (n : Nat) (eff : List (Nat × Nat)) (w0 : World) (a0 : Act) (tail : List Oper) (G : List (Value → World → Prop)) : Prop :=
  G.length = n ∧ (∀ (j : Nat) (g : Value → World → Prop), G[j]? = some g → StaysBut eff j g) ∧
  (∀ (i : Nat) (o : Oper) (g : Value → World → Prop), ops[i]? = some o → G[i]? = some g → ∀ a w, Mid2 ops n eff w0 a0 a w → Ahead eff i w0 w → Deps2 ops G o a w → wpOp P ops Q i (Leaves2 (rowAt eff i) o a w g) a w) ∧
  (∀ a w, Mid2 ops n eff w0 a0 a w → (∀ (j : Nat) (g : Value → World → Prop) (oj : Oper), G[j]? = some g → ops[j]? = some oj → g (leftBy oj a) w) → wpList P ops Q tail a w)

theorem walk_good : ∀ (l : List Oper) (k : Nat) (env : List (Value → World → Prop)), (∀ (j : Nat) (o : Oper), l[j]? = some o → ops[k + j]? = some o) → k + l.length = n → env.length = k →
    (∀ (j : Nat) (g : Value → World → Prop), env.reverse[j]? = some g → StaysBut eff j g) →
    (∀ (i : Nat) (o : Oper) (g : Value → World → Prop), ops[i]? = some o → env.reverse[i]? = some g → ∀ a w, Mid2 ops n eff w0 a0 a w → Ahead eff i w0 w → Deps2 ops env.reverse o a w → wpOp P ops Q i (Leaves2 (rowAt eff i) o a w g) a w) →
    Walk P ops Q n eff w0 a0 tail k l env → ∃ G, Good2 P ops Q n eff w0 a0 tail G := by
  intro l
  induction l with
  | nil =>
    intro k env hl hn hk hlast hstep h
    exact ⟨env.reverse, by simp at hn ⊢; omega, hlast, hstep, h⟩
  | cons o rest ih =>
    intro k env hl hn hk hlast hstep h
    obtain ⟨G, hG, hs, hc⟩ := h
    have ho : ops[k]? = some o := by
      simpa using hl 0 o (by simp)
    have hlen : env.reverse.length = k := by simp [hk]
    have hold : ∀ (j : Nat) (g : Value → World → Prop), (G :: env).reverse[j]? = some g → (j < k ∧ env.reverse[j]? = some g) ∨ (j = k ∧ g = G) := by
      intro j g hg
      rw [List.reverse_cons] at hg
      rcases Nat.lt_or_ge j k with hjk | hjk
      · rw [List.getElem?_append_left (by omega)] at hg
        exact .inl ⟨hjk, hg⟩
      · rw [List.getElem?_append_right (by omega), hlen] at hg
        rcases Nat.lt_or_ge j (k + 1) with h | h
        · obtain rfl : j = k := by omega
          simp at hg
          exact .inr ⟨rfl, hg.symm⟩
        · rw [List.getElem?_eq_none (by simp; omega)] at hg; cases hg
    refine ih (k + 1) (G :: env) (fun j o' ho' => ?_) (by simp at hn; omega) (by simp [hk]) (fun j g hg => ?_) (fun i o' g hi hg a w hm ha hd => ?_) hc
    · have := hl (j + 1) o' (by simpa using ho')
      rwa [show k + 1 + j = k + (j + 1) by omega]
    · rcases hold j g hg with ⟨_, h⟩ | ⟨rfl, rfl⟩
      · exact hlast j g h
      · exact hG
    · have hd' : Deps2 ops env.reverse o' a w := by
        intro j hj g' d hg' hdst
        refine hd j hj g' d ?_ hdst
        rw [List.reverse_cons, List.getElem?_append_left (by rcases Nat.lt_or_ge j env.reverse.length with h | h; exact h; rw [List.getElem?_eq_none h] at hg'; cases hg')]
        exact hg'
      rcases hold i g hg with ⟨_, h⟩ | ⟨rfl, rfl⟩
      · exact hstep i o' g hi h a w hm ha hd'
      · rw [ho] at hi
        injection hi with hi
        subst hi
        exact hs a w hm ha hd'

/-- What holds in the midst of a region, of those operations that are done. -/
def Inv2 (ops : Array Oper) (n : Nat) (eff : List (Nat × Nat)) (w0 : World) (a0 : Act) (G : List (Value → World → Prop)) (listed : Array Bool) (a : Act) (w : World) : Prop :=
  listed.size = ops.size ∧ (∀ j, n ≤ j → listed.getD j false = false) ∧ Mid2 ops n eff w0 a0 a w ∧
  (∀ i g, rowAt eff i = some g → listed.getD i false = false → g < w0.heap.size → w.heap[g]? = w0.heap[g]?) ∧ ClosedL ops listed ∧
  ∀ (j : Nat) (g : Value → World → Prop) (oj : Oper), listed.getD j false = true → G[j]? = some g → ops[j]? = some oj → g (leftBy oj a) w

theorem count_set2 (l : List Bool) (i : Nat) (h : l[i]? = some false) : (l.set i true).count false + 1 = l.count false := by
  induction l generalizing i with
  | nil => simp at h
  | cons b l ih =>
    cases i with
    | zero => simp at h; subst h; simp
    | succ i =>
      have := ih i (by simpa using h)
      cases b <;> simp <;> omega

theorem eval_put_ne2 (a : Act) (dst : Option Tmp) (v : Value) (t : Tmp) (h : dst ≠ some t) : (a.put dst v).eval (.tmp t) = a.eval (.tmp t) :=
  Act.eval_put fun d hd e => h (by injection e with e; rw [hd, e])
theorem eval_put_eq2 (a : Act) (d : Tmp) (v : Value) (h : d < a.tmps.size) : (a.put (some d) v).eval (.tmp d) = v := by
  simp [Act.eval, Act.put, h]
theorem put_size2 (a : Act) (dst : Option Tmp) (v : Value) : (a.put dst v).tmps.size = a.tmps.size := by
  cases dst <;> simp [Act.put]
theorem put_defers2 (a : Act) (dst : Option Tmp) (v : Value) : (a.put dst v).defers = a.defers := by
  cases dst <;> rfl

theorem wpOp_new {i : Nat} {o : Oper} {K : Act → World → Prop} {a : Act} {w : World} (ho : ops[i]? = some o) (h : wpOp P ops Q i K a w) :
    wpOp P ops Q i (fun a' w' => K a' w' ∧ (isNew o = true → a' = a.put o.dst (.pointer (some ⟨w.heap.size, 0, none⟩)) ∧ w.heap.size < w'.heap.size)) a w := by
  by_cases hn : isNew o = true
  · have hg : o.guard = none := by
      unfold isNew at hn
      simp only [Bool.and_eq_true] at hn
      simpa using hn.1
    have hw : Region.wanted o (yielded ops a.tmps) = true := by simp [Region.wanted, hg]
    unfold wpOp at *
    rw [ho] at *
    simp only [hw, if_true] at *
    refine h.imp (fun h => ?_) id
    unfold Oper.wp at *
    rcases run_new (P := P) (a := a) (w := w) hn with ⟨obj, hr⟩ | ⟨hh, w', hr⟩
    · rw [hr] at h ⊢
      exact ⟨h, fun _ => ⟨rfl, by simp⟩⟩
    · rw [hr] at h ⊢
      cases hh <;> exact h
  · exact wpOp_mono (fun a' w' hk => ⟨hk, fun e => absurd e hn⟩) h

theorem inv_any2 (hdis : ∀ i j g, rowAt eff i = some g → rowAt eff j = some g → i = j) (hfit : fitHead ops n = true) (htail : TailLate ops n) (htl : ∀ j, tail[j]? = ops[n + j]?) (hslots : ∀ (i : Nat) (o : Oper) (d : Tmp), ops[i]? = some o → o.dst = some d → d < a0.tmps.size) {G : List (Value → World → Prop)} (hG : Good2 P ops Q n eff w0 a0 tail G) :
    ∀ (fuel : Nat) (listed : Array Bool) (a : Act) (w : World), listed.toList.count false = fuel → Inv2 ops n eff w0 a0 G listed a w → wpAny P .any ops Q fuel listed a w := by
  obtain ⟨hGl, hlast, hstep, hend⟩ := hG
  have hn := fit2_n hfit
  have htlen : tail.length = ops.size - n := by
    rcases Nat.lt_or_ge tail.length (ops.size - n) with h | h
    · have h1 := htl tail.length
      rw [List.getElem?_eq_none (Nat.le_refl _), Array.getElem?_eq_getElem (by omega)] at h1
      cases h1
    · rcases Nat.lt_or_ge (ops.size - n) tail.length with h' | h'
      · have h1 := htl (ops.size - n)
        rw [List.getElem?_eq_getElem h', Array.getElem?_eq_none (by omega)] at h1
        cases h1
      · omega
  -- the head is done: the tail follows in its order
  have hdone : ∀ (listed : Array Bool) (a : Act) (w : World), (∀ j, j < n → listed.getD j false = true) → Inv2 ops n eff w0 a0 G listed a w → wpAny P .any ops Q (ops.size - n) listed a w := by
    intro listed a w hall ⟨hsz, htf, hm, _, _, hg⟩
    have hl : listed = (List.replicate n true ++ List.replicate (ops.size - n) false).toArray := by
      apply Array.ext
      · simp [hsz]; omega
      · intro i h1 h2
        rcases Nat.lt_or_ge i n with h | h
        · have := hall i h
          simp only [Array.getD, h1, dite_true] at this
          rw [show listed[i] = true from this]
          simp [h]
        · have := htf i h
          simp only [Array.getD, h1, dite_true] at this
          rw [show listed[i] = false from this]
          simp [List.getElem_append, Nat.not_lt.2 h]
    have hw := hend a w hm fun j g oj hj hd => hg j g oj (hall j (by rcases Nat.lt_or_ge j G.length with h | h; omega; rw [List.getElem?_eq_none h] at hj; cases hj)) hj hd
    have := wpAny_of_seq (md := .any) (Q' := Q) tail n listed a w htl (by rw [htlen, hl]; exact fit2_seq hfit) hw
    rwa [htlen] at this
  have hcnt : ∀ listed : Array Bool, listed.size = ops.size → (∀ j, j < n → listed.getD j false = true) → (∀ j, n ≤ j → listed.getD j false = false) → listed.toList.count false = ops.size - n := by
    intro listed hsz hall htf
    have hl : listed = (List.replicate n true ++ List.replicate (ops.size - n) false).toArray := by
      apply Array.ext
      · simp [hsz]; omega
      · intro i h1 h2
        rcases Nat.lt_or_ge i n with h | h
        · have := hall i h
          simp only [Array.getD, h1, dite_true] at this
          rw [show listed[i] = true from this]
          simp [h]
        · have := htf i h
          simp only [Array.getD, h1, dite_true] at this
          rw [show listed[i] = false from this]
          simp [List.getElem_append, Nat.not_lt.2 h]
    rw [hl]
    simp [List.count_append, List.count_replicate]
  intro fuel
  induction fuel with
  | zero =>
    intro listed a w hc hI
    have hall : ∀ j, j < n → listed.getD j false = true := by
      intro j hj
      have hjl : j < listed.size := by rw [hI.1]; omega
      have hnm := List.count_eq_zero.1 hc
      cases hb : listed[j] with
      | true => simp [Array.getD, hjl]; exact hb
      | false => exact absurd (by rw [← hb]; simp) hnm
    have := hdone listed a w hall hI
    rwa [← hcnt listed hI.1 hall hI.2.1, hc] at this
  | succ fuel ih =>
    intro listed a w hc hI
    by_cases hall : ∀ j, j < n → listed.getD j false = true
    · have := hdone listed a w hall hI
      rwa [← hcnt listed hI.1 hall hI.2.1, hc] at this
    · obtain ⟨hsz, htf, hm, hahead, hcl, hg⟩ := hI
      -- the least one that is not done is ready
      have hex : ∃ j, j < n ∧ listed.getD j false = false ∧ ∀ i, i < j → listed.getD i false = true := by
        have h1 : ∃ j, j < n ∧ listed.getD j false = false := by
          rcases Classical.em (∃ j, j < n ∧ listed.getD j false = false) with h | h
          · exact h
          · exfalso
            apply hall
            intro j hj
            cases hb : listed.getD j false with
            | true => rfl
            | false => exact absurd ⟨j, hj, hb⟩ h
        have h2 : ∀ m, (∃ j, j < m ∧ j < n ∧ listed.getD j false = false) → ∃ j, j < n ∧ listed.getD j false = false ∧ ∀ i, i < j → listed.getD i false = true := by
          intro m
          induction m with
          | zero => rintro ⟨j, hj, _⟩; omega
          | succ m ihm =>
            rintro ⟨j, hj, hjn, hjf⟩
            by_cases hl : ∃ j, j < m ∧ j < n ∧ listed.getD j false = false
            · exact ihm hl
            · refine ⟨j, hjn, hjf, fun i hi => ?_⟩
              cases hb : listed.getD i false with
              | true => rfl
              | false => exact absurd ⟨i, by omega, by omega, hb⟩ hl
        obtain ⟨j, hj, hjf⟩ := h1
        exact h2 (j + 1) ⟨j, by omega, hj, hjf⟩
      obtain ⟨j0, hj0n, hj0f, hj0l⟩ := hex
      refine ⟨fun hr => ?_, fun i hi => ?_⟩
      · exfalso
        have hjs : j0 < ops.size := by omega
        have hin : j0 ∈ Region.ready .any ops listed := by
          unfold Region.ready
          rw [List.mem_filter, List.mem_range]
          refine ⟨hjs, ?_⟩
          have hjl : j0 < listed.size := by omega
          have h1 : listed.getD j0 true = false := by
            simp only [Array.getD, hjl, dite_true] at hj0f ⊢
            exact hj0f
          rw [h1, Array.getElem?_eq_getElem hjs]
          simp only [Bool.not_false, Option.map_some, Option.getD_some, Bool.true_and, Array.all_eq_true_iff_forall_mem]
          intro e he
          cases hbd : Region.binds .any e with
          | false => rfl
          | true =>
            have hmem : e.on ∈ depsOn ops[j0] := by
              unfold depsOn
              rw [List.mem_map]
              exact ⟨e, List.mem_filter.2 ⟨by simpa using he, hbd⟩, rfl⟩
            have hlt := fit2_dep hfit hj0n (Array.getElem?_eq_getElem hjs) hmem
            rw [hj0l e.on hlt]
            rfl
        rw [hr] at hin
        cases hin
      · unfold Region.ready at hi
        rw [List.mem_filter, List.mem_range] at hi
        obtain ⟨his, hi2⟩ := hi
        have hil : i < listed.size := by omega
        have ho : ops[i]? = some ops[i] := Array.getElem?_eq_getElem his
        rw [ho] at hi2
        simp only [Option.map_some, Option.getD_some, Bool.and_eq_true, Array.all_eq_true_iff_forall_mem] at hi2
        have hdl : ∀ j ∈ depsOn ops[i], listed.getD j false = true := by
          intro j hj
          unfold depsOn at hj
          rw [List.mem_map] at hj
          obtain ⟨e, he, rfl⟩ := hj
          obtain ⟨he1, he2⟩ := List.mem_filter.1 he
          have := hi2.2 e (by simpa using he1)
          rw [he2] at this
          simpa using this
        have hin : i < n := by
          rcases Nat.lt_or_ge i n with h | h
          · exact h
          · exfalso
            have := htail listed i _ hcl (by omega) ho hdl j0 hj0n
            rw [hj0f] at this
            cases this
        have hgi : G[i]? = some (G[i]'(by omega)) := List.getElem?_eq_getElem (by omega)
        have hfalse : listed[i] = false := by
          have := hi2.1
          simp only [Array.getD, hil, dite_true] at this
          simpa using this
        have hfalse' : listed.getD i false = false := by simp only [Array.getD, hil, dite_true]; exact hfalse
        have hdeps : Deps2 ops G ops[i] a w := fun j hj g oj hgj hd => hg j g oj (hdl j hj) hgj hd
        have hahd : Ahead eff i w0 w := fun g he hlt => hahead i g he hfalse' hlt
        refine wpOp_mono ?_ (wpOp_new ho (hstep i _ _ ho hgi a w hm hahd hdeps))
        rintro a' w' ⟨⟨v, rfl, hgr, hv, hlv⟩, hnew⟩
        have hother : ∀ (x : Nat) (ox : Oper) (d : Tmp), x < n → x ≠ i → ops[x]? = some ox → ox.dst = some d → (a.put ops[i].dst v).eval (.tmp d) = a.eval (.tmp d) := fun x ox d hxn hxi hox hd => by
          rw [eval_put_ne2]
          intro e
          exact hxi (fit2_dst hfit hxn hin hox ho hd e)
        have hself : ∀ d, ops[i].dst = some d → isNew ops[i] = true → (a.put ops[i].dst v).eval (.tmp d) = .pointer (some ⟨w.heap.size, 0, none⟩) ∧ w.heap.size < w'.heap.size := fun d hd hn => by
          obtain ⟨h1, h2⟩ := hnew hn
          rw [h1]
          refine ⟨?_, h2⟩
          rw [hd, eval_put_eq2]
          rw [hm.size]
          exact hslots i _ d ho hd
        have hset : ∀ j, j ≠ i → (listed.setIfInBounds i true).getD j false = listed.getD j false := by
          intro j hj
          simp only [Array.getD_eq_getD_getElem?, Array.getElem?_setIfInBounds]
          rw [if_neg (fun e => hj e.symm)]
        refine ih _ _ _ ?_ ⟨by simp [hsz], fun j hj => ?_, ⟨hm.grow.step hgr, by rw [put_size2]; exact hm.size, by rw [put_defers2]; exact hm.defers, fun t ht => ?_, fun x ox d hxn hox hxnew hd hne => ?_, fun x y ox oy dx dy hxy hxn hyn hox hoy hxnew hynew hdx hdy hnx hny => ?_⟩, fun e g he hel hlt => ?_, fun x ox hx hox j hj => ?_, fun j g oj hj hgj hd => ?_⟩
        · have := count_set2 listed.toList i (by simp [hfalse, hil])
          rw [Array.toList_setIfInBounds]
          omega
        · rw [hset j (by omega)]
          exact htf j hj
        · rw [eval_put_ne2]
          · exact hm.outer t ht
          · rw [List.all_eq_true] at ht
            have hmem : ops[i] ∈ ops.toList.take n := by
              rw [List.mem_iff_getElem?]
              exact ⟨i, by rw [List.getElem?_take, if_pos hin]; simp⟩
            simpa using ht ops[i] hmem
        · by_cases hxi : x = i
          · subst hxi
            rw [ho] at hox
            injection hox with hox
            subst hox
            obtain ⟨h1, h2⟩ := hself d hd hxnew
            exact ⟨_, h1, h2⟩
          · rw [hother x ox d hxn hxi hox hd] at hne ⊢
            obtain ⟨g, h1, h2⟩ := hm.news x ox d hxn hox hxnew hd hne
            exact ⟨g, h1, Nat.lt_of_lt_of_le h2 hgr.size⟩
        · by_cases hxi : x = i
          · subst hxi
            rw [ho] at hox
            injection hox with hox
            subst hox
            have h1 := (hself dx hdx hxnew).1
            rw [hother y oy dy hyn (fun e => hxy e.symm) hoy hdy] at hny ⊢
            obtain ⟨g, h2, h3⟩ := hm.news y oy dy hyn hoy hynew hdy hny
            rw [h1, h2]
            intro e
            injection e with e
            injection e with e
            injection e with e
            omega
          · by_cases hyi : y = i
            · subst hyi
              rw [ho] at hoy
              injection hoy with hoy
              subst hoy
              have h1 := (hself dy hdy hynew).1
              rw [hother x ox dx hxn hxi hox hdx] at hnx ⊢
              obtain ⟨g, h2, h3⟩ := hm.news x ox dx hxn hox hxnew hdx hnx
              rw [h1, h2]
              intro e
              injection e with e
              injection e with e
              injection e with e
              omega
            · rw [hother x ox dx hxn hxi hox hdx] at hnx ⊢
              rw [hother y oy dy hyn hyi hoy hdy] at hny ⊢
              exact hm.apart x y ox oy dx dy hxy hxn hyn hox hoy hxnew hynew hdx hdy hnx hny
        · have hie : e ≠ i := by
            rintro rfl
            simp only [Array.getD_eq_getD_getElem?, Array.getElem?_setIfInBounds] at hel
            simp [hil] at hel
          rw [hset e hie] at hel
          have hw := hahead e g he hel hlt
          rw [hgr.block g (Nat.lt_of_lt_of_le hlt hm.grow.size) (fun h => hie (hdis e i g he h.symm))]
          exact hw
        · have hdone : listed.getD j false = true := by
            by_cases hxi : x = i
            · subst hxi
              rw [ho] at hox
              injection hox with hox
              subst hox
              exact hdl j hj
            · rw [hset x hxi] at hx
              exact hcl x ox hx hox j hj
          have hji : j ≠ i := by
            rintro rfl
            rw [hfalse'] at hdone
            cases hdone
          rw [hset j hji]
          exact hdone
        · by_cases hij : j = i
          · subst hij
            rw [hgi] at hgj
            injection hgj with hgj
            subst hgj
            rw [ho] at hd
            injection hd with hd
            subst hd
            unfold leftBy
            cases hdd : ops[j].dst with
            | none => rw [hlv hdd] at hv; exact hv
            | some d =>
              simp only
              rw [eval_put_eq2]
              · exact hv
              · rw [hm.size]; exact hslots j _ d ho hdd
          · rw [hset j hij] at hj
            have hv' := hg j g oj hj hgj hd
            have hsame : leftBy oj (a.put ops[i].dst v) = leftBy oj a := by
              unfold leftBy
              cases hdj : oj.dst with
              | none => rfl
              | some d =>
                simp only
                rw [eval_put_ne2]
                intro hdi
                have hjn : j < n := by
                  rcases Nat.lt_or_ge j n with h | h
                  · exact h
                  · rw [htf j h] at hj; cases hj
                exact hij (fit2_dst hfit hjn hin hd ho hdj hdi)
            rw [hsame]
            exact hlast j g hgj i (fun e => hij e.symm) _ _ _ hv' hgr

/-- Every order of such a region. -/
theorem region_tail_any {l : List Oper} (n : Nat) (eff : List (Nat × Nat)) (hdis : ∀ i j g, rowAt eff i = some g → rowAt eff j = some g → i = j) (hfit : fitHead l.toArray n = true) (htail : TailLate l.toArray n) (hslots : (l.all fun o => match o.dst with | some d => decide (d < a0.tmps.size) | none => true) = true)
    (h : Walk P l.toArray Q n eff w0.drew a0 (l.drop n) 0 (l.take n) []) : wpAny P .any l.toArray Q l.toArray.size (Array.replicate l.toArray.size false) a0 { w0 with drawn := w0.drawn + 1 } := by
  have hn := fit2_n hfit
  have hn' : n ≤ l.length := by simpa using hn
  obtain ⟨G, hG⟩ := walk_good (l.take n) 0 [] (fun j o hj => by
      rw [List.getElem?_take] at hj
      split at hj
      · simpa using hj
      · cases hj) (by simp; omega) rfl (fun j g hg => by simp at hg) (fun i o g _ hg => by simp at hg) h
  refine inv_any2 (w0 := w0.drew) hdis hfit htail (fun j => by simp [List.getElem?_drop]) ?_ hG _ _ _ _ ?_ ⟨by simp, fun j _ => ?_, ⟨⟨rfl, rfl, rfl, Nat.le_refl _, fun _ _ _ => rfl⟩, rfl, rfl, fun _ _ => rfl, fun _ _ _ _ _ _ _ h => absurd rfl h, fun _ _ _ _ _ _ _ _ _ _ _ _ _ _ _ h => absurd rfl h⟩, fun _ _ _ _ _ => rfl, fun i o hi => ?_, fun j g oj hj => ?_⟩
  · intro i o d ho hd
    have hmem : o ∈ l := by
      have : l[i]? = some o := by simpa using ho
      exact List.mem_of_getElem? this
    have := List.all_eq_true.1 hslots o hmem
    rw [hd] at this
    simpa using this
  · simp
  · simp only [Array.getD_eq_getD_getElem?, Array.getElem?_replicate]
    split <;> rfl
  · simp only [Array.getD_eq_getD_getElem?, Array.getElem?_replicate] at hi
    split at hi <;> simp at hi
  · simp only [Array.getD_eq_getD_getElem?, Array.getElem?_replicate] at hj
    split at hj <;> simp at hj
theorem wp_region_tail {id : Nat} {l : List Oper} (n : Nat) (eff : List (Nat × Nat)) (hdis : ∀ i j g, rowAt eff i = some g → rowAt eff j = some g → i = j) (hm : P.follows .mixedOrders = true) (hfit : fitHead l.toArray n = true) (htail : TailLate l.toArray n) (hslots : (l.all fun o => match o.dst with | some d => decide (d < a0.tmps.size) | none => true) = true)
    (h : Walk P l.toArray Q n eff w0.drew a0 (l.drop n) 0 (l.take n) []) : (Code.region id l.toArray true).wp P Q a0 w0 :=
  wp_region_any hm (region_tail_any n eff hdis hfit htail hslots h)
/-- THE RULE. -/
theorem wp_region_walk {id : Nat} {l : List Oper} (n : Nat) (eff : List (Nat × Nat)) (hdis : ∀ i j g, rowAt eff i = some g → rowAt eff j = some g → i = j) (hm : P.follows .mixedOrders = true) (hfit : fit2 l.toArray n = true) (hslots : (l.all fun o => match o.dst with | some d => decide (d < a0.tmps.size) | none => true) = true)
    (h : Walk P l.toArray Q n eff w0.drew a0 (l.drop n) 0 (l.take n) []) : (Code.region id l.toArray true).wp P Q a0 w0 :=
  wp_region_tail n eff hdis hm (by simp only [fit2, Bool.and_eq_true] at hfit; exact hfit.1) (fit2_tail hfit) hslots h
/-- The same where the others are bound by the first n through one another. -/
theorem wp_region_walk3 {id : Nat} {l : List Oper} (n : Nat) (eff : List (Nat × Nat)) (hdis : ∀ i j g, rowAt eff i = some g → rowAt eff j = some g → i = j) (hm : P.follows .mixedOrders = true) (hfit : fit3 l.toArray n = true) (hslots : (l.all fun o => match o.dst with | some d => decide (d < a0.tmps.size) | none => true) = true)
    (h : Walk P l.toArray Q n eff w0.drew a0 (l.drop n) 0 (l.take n) []) : (Code.region id l.toArray true).wp P Q a0 w0 :=
  wp_region_tail n eff hdis hm (by simp only [fit3, Bool.and_eq_true] at hfit; exact hfit.1) (fit3_tail hfit) hslots h
end
end Go.Proofs.Ytohndlfekecfoaa
