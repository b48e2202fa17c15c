/-
  A region that draws its order, whose operations read or make memory: walked once. Each operation's value is described by a predicate that lasts while memory grows; each operation is run in whatever world has come of the first one by growth, when the operations ahead of it have been run.
-/
import Derived.Test.YtohndlfekecfoaaBase
import Derived.Orders
namespace Go.Proofs.Ytohndlfekecfoaa
set_option maxRecDepth 1000000
open Go.RowKit

/-- The operations that bind operation o. -/
def depsOf (o : Oper) : List Nat := (o.after.toList.filter fun e => Region.binds .any e).map (·.on)

/-- Of the frame and the world in the midst of a region. -/
structure Mid (ops : Array Oper) (row : Option Nat) (w0 : World) (a0 : Act) (a : Act) (w : World) : Prop where
  grow : w0.grownBy w row
  size : a.tmps.size = a0.tmps.size
  defers : a.defers = a0.defers
  outer : ∀ t, (ops.all fun o => o.dst != some t) = true → a.eval (.tmp t) = a0.eval (.tmp t)

/-- What operation o leaves: a value of G in its slot, the world grown. -/
def Leaves (row : Option Nat) (o : Oper) (a : Act) (w : World) (G : Value → World → Prop) (a' : Act) (w' : World) : Prop :=
  ∃ v, a' = a.put o.dst v ∧ w.grownBy w' row ∧ G v w'

/-- G lasts. -/
def Lasts (row : Option Nat) (G : Value → World → Prop) : Prop := ∀ v w w', G v w → w.grownBy w' row → G v w'

/-- What is known of operation o's bounds. -/
def Deps (ops : Array Oper) (env : List (Value → World → Prop)) (o : Oper) (a : Act) (w : World) : Prop :=
  ∀ j ∈ depsOf o, ∀ (G : Value → World → Prop) (d : Tmp), env[j]? = some G → (ops[j]?).bind (fun o => o.dst) = some d → G (a.eval (.tmp d)) w

/-- The walk through a region's operations, one behind the other. -/
def Chain (P : Program) (ops : Array Oper) (Q : Exit → Act → World → Prop) (row : Option Nat) (w0 : World) (a0 : Act) : Nat → List Oper → List (Value → World → Prop) → Prop
  | _, [], env => ∀ a w, Mid ops row w0 a0 a w → (∀ (j : Nat) (G : Value → World → Prop) (d : Tmp), env[j]? = some G → (ops[j]?).bind (fun o => o.dst) = some d → G (a.eval (.tmp d)) w) → Q .normal a w
  | k, o :: rest, env => ∃ G, Lasts row G ∧ (∀ a w, Mid ops row w0 a0 a w → Deps ops env o a w → wpOp P ops Q k (Leaves row o a w G) a w) ∧ Chain P ops Q row w0 a0 (k + 1) rest (env ++ [G])

/-- No two operations write one slot; each is bound by earlier ones alone. -/
def fitB (ops : Array Oper) : Bool :=
  (List.range ops.size).all fun i => (List.range ops.size).all fun j =>
    (i == j || match ops[i]?, ops[j]? with
      | some o, some o' => !(o.dst.isSome && o.dst == o'.dst)
      | _, _ => true) && match ops[i]? with
      | some o => (depsOf o).all (· < i)
      | none => true

theorem fit_dst {ops : Array Oper} (h : fitB ops = true) {i j : Nat} {o o' : Oper} {d : Tmp} (hi : ops[i]? = some o) (hj : ops[j]? = some o') (hd : o.dst = some d) (hd' : o'.dst = some d) : i = j := by
  have hil : i < ops.size := by
    rcases Nat.lt_or_ge i ops.size with h | h
    · exact h
    · rw [Array.getElem?_eq_none h] at hi; cases hi
  have hjl : j < ops.size := by
    rcases Nat.lt_or_ge j ops.size with h | h
    · exact h
    · rw [Array.getElem?_eq_none h] at hj; cases hj
  simp only [fitB, List.all_eq_true, List.mem_range, Bool.and_eq_true, Bool.or_eq_true] at h
  have := (h i hil j hjl).1
  rcases this with h | h
  · simpa using h
  · rw [hi, hj] at h
    simp [hd, hd'] at h

theorem fit_dep {ops : Array Oper} (h : fitB ops = true) {i j : Nat} {o : Oper} (hi : ops[i]? = some o) (hj : j ∈ depsOf o) : j < i := by
  have hil : i < ops.size := by
    rcases Nat.lt_or_ge i ops.size with h | h
    · exact h
    · rw [Array.getElem?_eq_none h] at hi; cases hi
  simp only [fitB, List.all_eq_true, List.mem_range, Bool.and_eq_true] at h
  have := (h i hil i hil).2
  rw [hi] at this
  simpa using List.all_eq_true.1 this j hj

theorem eval_put_ne (a : Act) (dst : Option Tmp) (v : Value) (t : Tmp) (h : dst ≠ some t) : (a.put dst v).eval (.tmp t) = a.eval (.tmp t) :=
  Act.eval_put fun d hd e => h (by injection e with e; rw [hd, e])

theorem eval_put_eq (a : Act) (d : Tmp) (v : Value) (h : d < a.tmps.size) : (a.put (some d) v).eval (.tmp d) = v := by
  simp [Act.eval, Act.put, h]

theorem put_size (a : Act) (dst : Option Tmp) (v : Value) : (a.put dst v).tmps.size = a.tmps.size := by
  cases dst <;> simp [Act.put]

theorem put_defers (a : Act) (dst : Option Tmp) (v : Value) : (a.put dst v).defers = a.defers := by
  cases dst <;> rfl

theorem grown_trans' {a b c : World} {row : Option Nat} (h : a.grownBy b row) (k : b.grownBy c row) : a.grownBy c row :=
  ⟨k.os.trans h.os, k.tape.trans h.tape, k.output.trans h.output, Nat.le_trans h.size k.size, fun i hi hne => (k.block i (Nat.lt_of_lt_of_le hi h.size) hne).trans (h.block i hi hne)⟩

section
variable {P : Program} {ops : Array Oper} {Q : Exit → Act → World → Prop} {row : Option Nat} {w0 : World} {a0 : Act}

/-- What the chain says of each operation. -/
def AllGood (P : Program) (ops : Array Oper) (Q : Exit → Act → World → Prop) (row : Option Nat) (w0 : World) (a0 : Act) (G : List (Value → World → Prop)) : Prop :=
  G.length = ops.size ∧ (∀ g ∈ G, Lasts row g) ∧
  (∀ (i : Nat) (o : Oper) (g : Value → World → Prop), ops[i]? = some o → G[i]? = some g → ∀ a w, Mid ops row w0 a0 a w → Deps ops G o a w → wpOp P ops Q i (Leaves row o a w g) a w) ∧
  (∀ a w, Mid ops row w0 a0 a w → (∀ (j : Nat) (g : Value → World → Prop) (d : Tmp), G[j]? = some g → (ops[j]?).bind (fun o => o.dst) = some d → g (a.eval (.tmp d)) w) → Q .normal a w)

theorem chain_good : ∀ (l : List Oper) (k : Nat) (env : List (Value → World → Prop)), (∀ j : Nat, l[j]? = ops[k + j]?) → env.length = k → k ≤ ops.size → (∀ g ∈ env, Lasts row g) →
    (∀ (i : Nat) (o : Oper) (g : Value → World → Prop), ops[i]? = some o → env[i]? = some g → ∀ a w, Mid ops row w0 a0 a w → Deps ops env o a w → wpOp P ops Q i (Leaves row o a w g) a w) →
    Chain P ops Q row w0 a0 k l env → ∃ G, AllGood P ops Q row w0 a0 G := by
  intro l
  induction l with
  | nil =>
    intro k env hl hk hkz hlast hstep h
    refine ⟨env, ?_, hlast, hstep, h⟩
    have h1 : ∀ j, ops[k + j]? = none := fun j => by rw [← hl j]; rfl
    have hsz : ops.size ≤ k := by
      have := h1 0
      rw [Nat.add_zero] at this
      exact Array.getElem?_eq_none_iff.1 this
    omega
  | cons o rest ih =>
    intro k env hl hk hkz hlast hstep h
    obtain ⟨G, hG, hs, hc⟩ := h
    have ho : ops[k]? = some o := by
      have := hl 0
      simpa using this.symm
    have hkl : k < ops.size := by
      rcases Nat.lt_or_ge k ops.size with h | h
      · exact h
      · rw [Array.getElem?_eq_none h] at ho; cases ho
    refine ih (k + 1) (env ++ [G]) (fun j => ?_) (by simp [hk]) (by omega) (fun g hg => ?_) (fun i o' g hi hg a w hm hd => ?_) hc
    · have := hl (j + 1)
      simpa [Nat.add_assoc, Nat.add_comm 1 j] using this
    · rcases List.mem_append.1 hg with h | h
      · exact hlast g h
      · simp at h; subst h; exact hG
    · have hd' : Deps ops env o' a w := by
        intro j hj g' d hg' hdst
        refine hd j hj g' d ?_ hdst
        rw [List.getElem?_append_left (by rcases Nat.lt_or_ge j env.length with h | h; exact h; rw [List.getElem?_eq_none h] at hg'; cases hg')]
        exact hg'
      rcases Nat.lt_or_ge i k with hik | hik
      · refine hstep i o' g hi ?_ a w hm hd'
        rw [List.getElem?_append_left (by omega)] at hg
        exact hg
      · have hie : i = k := by
          rcases Nat.lt_or_ge i (k + 1) with h | h
          · omega
          · rw [List.getElem?_eq_none (by simp [hk]; omega)] at hg; cases hg
        subst hie
        have hg' : G = g := by
          rw [List.getElem?_append_right (by omega)] at hg
          simpa [hk] using hg
        subst hg'
        rw [ho] at hi
        injection hi with hi
        subst hi
        exact hs a w hm hd'

/-- What holds in the midst of a region, of those operations that are done. -/
def Inv (ops : Array Oper) (row : Option Nat) (w0 : World) (a0 : Act) (G : List (Value → World → Prop)) (listed : Array Bool) (a : Act) (w : World) : Prop :=
  listed.size = ops.size ∧ Mid ops row w0 a0 a w ∧
  ∀ (j : Nat) (g : Value → World → Prop) (d : Tmp), listed.getD j false = true → G[j]? = some g → (ops[j]?).bind (fun o => o.dst) = some d → g (a.eval (.tmp d)) w

theorem count_set (l : List Bool) (i : Nat) (h : l[i]? = some false) : (l.set i true).count false + 1 = l.count false := by
  induction l generalizing i with
  | nil => simp at h
  | cons b l ih =>
    cases i with
    | zero => simp at h; subst h; simp
    | succ i =>
      have := ih i (by simpa using h)
      cases b <;> simp <;> omega

theorem inv_any (hfit : fitB ops = true) (hslots : ∀ o ∈ ops, ∀ d, o.dst = some d → d < a0.tmps.size) {G : List (Value → World → Prop)} (hG : AllGood P ops Q row w0 a0 G) :
    ∀ (fuel : Nat) (listed : Array Bool) (a : Act) (w : World), listed.toList.count false ≤ fuel → Inv ops row w0 a0 G listed a w → wpAny P .any ops Q fuel listed a w := by
  obtain ⟨hGl, hlast, hstep, hend⟩ := hG
  have hdone : ∀ (listed : Array Bool) (a : Act) (w : World), Region.ready .any ops listed = [] → Inv ops row w0 a0 G listed a w → Q .normal a w := by
    intro listed a w hr ⟨hsz, hm, hg⟩
    -- all are listed: the least one that is not would be ready
    have hall : ∀ n j, j < n → j < ops.size → listed.getD j false = true := by
      intro n
      induction n with
      | zero => intro j hj; omega
      | succ n ih =>
        intro j hj hjs
        rcases Nat.lt_or_ge j n with h | h
        · exact ih j h hjs
        · have hjn : j = n := by omega
          subst hjn
          cases hb : listed.getD j false with
          | true => rfl
          | false =>
            exfalso
            have hin : j ∈ Region.ready .any ops listed := by
              unfold Region.ready
              rw [List.mem_filter, List.mem_range]
              refine ⟨hjs, ?_⟩
              have hjl : j < listed.size := by omega
              have h1 : listed.getD j true = false := by
                simp only [Array.getD, hjl, dite_true] at hb ⊢
                exact hb
              rw [h1, Array.getElem?_eq_getElem hjs]
              simp only [Bool.not_false, Option.map_some, Option.getD_some, Bool.true_and, Array.all_eq_true_iff_forall_mem]
              intro e he
              cases hbd : Region.binds .any e with
              | false => rfl
              | true =>
                have hmem : e.on ∈ depsOf ops[j] := by
                  unfold depsOf
                  rw [List.mem_map]
                  exact ⟨e, List.mem_filter.2 ⟨by simpa using he, hbd⟩, rfl⟩
                have hlt := fit_dep hfit (Array.getElem?_eq_getElem hjs) hmem
                rw [ih e.on hlt (by omega)]
                rfl
            rw [hr] at hin
            cases hin
    refine hend a w hm fun j g d hj hd => hg j g d ?_ hj hd
    refine hall (j + 1) j (by omega) ?_
    rcases Nat.lt_or_ge j ops.size with h | h
    · exact h
    · rw [Array.getElem?_eq_none h] at hd; cases hd
  intro fuel
  induction fuel with
  | zero =>
    intro listed a w hc hI
    have hr : Region.ready .any ops listed = [] := by
      rw [List.eq_nil_iff_forall_not_mem]
      intro j hj
      unfold Region.ready at hj
      rw [List.mem_filter, List.mem_range] at hj
      have hjl : j < listed.size := by rw [hI.1]; exact hj.1
      have h0 : listed.toList.count false = 0 := by omega
      have hnm := List.count_eq_zero.1 h0
      have : listed.getD j true = true := by
        simp only [Array.getD, hjl, dite_true]
        cases hb : listed[j] with
        | true => exact hb
        | false => exact absurd (by rw [← hb]; simp) hnm
      rw [this] at hj
      simp at hj
    exact ⟨hr, hdone listed a w hr hI⟩
  | succ fuel ih =>
    intro listed a w hc hI
    refine ⟨fun hr => hdone listed a w hr hI, fun i hi => ?_⟩
    unfold Region.ready at hi
    rw [List.mem_filter, List.mem_range] at hi
    obtain ⟨his, hi2⟩ := hi
    obtain ⟨hsz, hm, hg⟩ := hI
    have hil : i < listed.size := by omega
    have ho : ops[i]? = some ops[i] := Array.getElem?_eq_getElem his
    have hgi : G[i]? = some (G[i]'(by omega)) := List.getElem?_eq_getElem (by omega)
    rw [ho] at hi2
    simp only [Option.map_some, Option.getD_some, Bool.and_eq_true, Array.all_eq_true_iff_forall_mem] at hi2
    have hfalse : listed[i] = false := by
      have := hi2.1
      simp only [Array.getD, hil, dite_true] at this
      simpa using this
    have hdeps : Deps ops G ops[i] a w := by
      intro j hj g d hgj hd
      refine hg j g d ?_ hgj hd
      unfold depsOf at hj
      rw [List.mem_map] at hj
      obtain ⟨e, he, rfl⟩ := hj
      obtain ⟨he1, he2⟩ := List.mem_filter.1 he
      have := hi2.2 e (by simpa using he1)
      rw [he2] at this
      simpa using this
    refine wpOp_mono ?_ (hstep i _ _ ho hgi a w hm hdeps)
    rintro a' w' ⟨v, rfl, hgr, hv⟩
    refine ih _ _ _ ?_ ⟨by simp [hsz], ⟨grown_trans' hm.grow hgr, by rw [put_size]; exact hm.size, by rw [put_defers]; exact hm.defers, fun t ht => ?_⟩, fun j g d hj hgj hd => ?_⟩
    · have := count_set listed.toList i (by simp [hfalse, hil])
      rw [Array.toList_setIfInBounds]
      omega
    · rw [eval_put_ne]
      · exact hm.outer t ht
      · rw [Array.all_eq_true_iff_forall_mem] at ht
        simpa using ht ops[i] (Array.getElem_mem his)
    · by_cases hij : j = i
      · subst hij
        rw [hgi] at hgj
        injection hgj with hgj
        subst hgj
        rw [ho] at hd
        simp only [Option.bind_some] at hd
        rw [hd, eval_put_eq]
        · exact hv
        · rw [hm.size]; exact hslots _ (Array.getElem_mem his) d hd
      · have hjl : listed.getD j false = true := by
          rw [← hj]
          simp only [Array.getD_eq_getD_getElem?, Array.getElem?_setIfInBounds]
          rw [if_neg (fun e => hij e.symm)]
        have hv' := hg j g d hjl hgj hd
        rw [eval_put_ne]
        · exact hlast g (List.mem_of_getElem? hgj) _ _ _ hv' hgr
        · intro hdi
          cases hoj : ops[j]? with
          | none => rw [hoj] at hd; cases hd
          | some oj =>
            rw [hoj] at hd
            exact hij (fit_dst hfit hoj ho hd hdi)

/-- THE RULE. -/
theorem wp_region_grow {id : Nat} {l : List Oper} (hm : P.follows .mixedOrders = true) (hfit : fitB l.toArray = true) (hslots : (l.all fun o => match o.dst with | some d => decide (d < a0.tmps.size) | none => true) = true)
    (h : Chain P l.toArray Q row w0 a0 0 l []) : (Code.region id l.toArray true).wp P Q a0 w0 := by
  obtain ⟨G, hG⟩ := chain_good l 0 [] (fun j => by simp) rfl (Nat.zero_le _) (fun g hg => by cases hg) (fun i o g _ hg => by simp at hg) h
  refine wp_region_any hm ?_
  refine inv_any hfit ?_ hG _ _ _ _ ?_ ⟨by simp, ⟨⟨rfl, rfl, rfl, Nat.le_refl _, fun _ _ _ => rfl⟩, rfl, rfl, fun _ _ => rfl⟩, fun j g d hj => ?_⟩
  · intro o ho d hd
    have := List.all_eq_true.1 hslots o (by simpa using ho)
    rw [hd] at this
    simpa using this
  · simp
  · simp only [Array.getD_eq_getD_getElem?, Array.getElem?_replicate] at hj
    split at hj <;> simp at hj
end
end Go.Proofs.Ytohndlfekecfoaa
