/-
  As Reg2, where an operation may turn several blocks (of no program).
-/
import Derived.Test.YtohndlfekecfoaaReg2Base
namespace Go.Proofs.Ytohndlfekecfoaa
set_option maxRecDepth 1000000
open Go.RowKit

theorem GrownX.trans3 {S T : List Nat} {w0 w w' : World} (h : GrownX S w0 w) (k : GrownX T w w') (hs : ∀ g ∈ T, g ∈ S) : GrownX S w0 w' :=
  ⟨k.os.trans h.os, k.tape.trans h.tape, k.output.trans h.output, Nat.le_trans h.size k.size, fun b hb hne => (k.block b (Nat.lt_of_lt_of_le hb h.size) (fun e => hne (hs b e))).trans (h.block b hb hne)⟩
theorem GrownX.of0 {S : List Nat} {w w' : World} (h : w.grownBy w' Option.none) : GrownX S w w' := ⟨h.os, h.tape, h.output, h.size, fun k hk _ => h.block k hk (by simp)⟩
theorem GrownX.of1 {w w' : World} {g : Nat} (h : w.grownBy w' (some g)) : GrownX [g] w w' := ⟨h.os, h.tape, h.output, h.size, fun k hk hn => h.block k hk (fun e => hn (by cases e; simp))⟩
theorem GrownX.to0 {w w' : World} (h : GrownX [] w w') : w.grownBy w' Option.none := ⟨h.os, h.tape, h.output, h.size, fun k hk _ => h.block k hk (by simp)⟩
/-- All that the operations may turn. -/
def allOf (eff : Nat → List Nat) (S : List Nat) : Prop := ∀ i, ∀ g ∈ eff i, g ∈ S
/-- Of the frame and the world in the midst of a region. -/
structure Mid3 (ops : Array Oper) (n : Nat) (eff : Nat → List Nat) (S : List Nat) (w0 : World) (a0 : Act) (a : Act) (w : World) : Prop where
  grow : GrownX S w0 w
  size : a.tmps.size = a0.tmps.size
  defers : a.defers = a0.defers
  outer : ∀ t, ((ops.toList.take n).all fun o => o.dst != some t) = true → a.eval (.tmp t) = a0.eval (.tmp t)
  news : ∀ (i : Nat) (o : Oper) (d : Tmp), i < n → ops[i]? = some o → isNew o = true → o.dst = some d → a.eval (.tmp d) ≠ a0.eval (.tmp d) → ∃ g, a.eval (.tmp d) = .pointer (some ⟨g, 0, none⟩) ∧ g < w.heap.size
  apart : ∀ (i j : Nat) (oi oj : Oper) (di dj : Tmp), i ≠ j → i < n → j < n → ops[i]? = some oi → ops[j]? = some oj → isNew oi = true → isNew oj = true → oi.dst = some di → oj.dst = some dj →
    a.eval (.tmp di) ≠ a0.eval (.tmp di) → a.eval (.tmp dj) ≠ a0.eval (.tmp dj) → a.eval (.tmp di) ≠ a.eval (.tmp dj)

/-- What operation o leaves: a value of G in its slot, the world grown. -/
def Leaves3 (row : List Nat) (o : Oper) (a : Act) (w : World) (G : Value → World → Prop) (a' : Act) (w' : World) : Prop :=
  ∃ v, a' = a.put o.dst v ∧ GrownX row w w' ∧ G v w' ∧ (o.dst = none → v = undef)

/-- G lasts while a row may be turned. -/
def Stays3 (row : List Nat) (G : Value → World → Prop) : Prop := ∀ v w w', G v w → GrownX row w w' → G v w'
/-- G, of operation j, lasts while the others go on. -/
def StaysBut3 (eff : Nat → List Nat) (j : Nat) (G : Value → World → Prop) : Prop := ∀ i, i ≠ j → Stays3 (eff i) G

/-- The world ahead of the operation that turns a block: that block is as it was. -/
def Ahead3 (eff : Nat → List Nat) (k : Nat) (w0 w : World) : Prop := ∀ g, g ∈ eff k → g < w0.heap.size → w.heap[g]? = w0.heap[g]?

/-- The walk through a region's first operations, one behind the other (what is known laid the other way round). -/
def Walk3 (P : Program) (ops : Array Oper) (Q : Exit → Act → World → Prop) (n : Nat) (eff : Nat → List Nat) (S : List Nat) (w0 : World) (a0 : Act) (tail : List Oper) : Nat → List Oper → List (Value → World → Prop) → Prop
  | _, [], env => ∀ a w, Mid3 ops n eff S w0 a0 a w → (∀ (j : Nat) (G : Value → World → Prop) (oj : Oper), env.reverse[j]? = some G → ops[j]? = some oj → G (leftBy oj a) w) → wpList P ops Q tail a w
  | k, o :: rest, env => ∃ G, StaysBut3 eff k G ∧ (∀ a w, Mid3 ops n eff S w0 a0 a w → Ahead3 eff k w0 w → Deps2 ops env.reverse o a w → wpOp P ops Q k (Leaves3 (eff k) o a w G) a w) ∧ Walk3 P ops Q n eff S w0 a0 tail (k + 1) rest (G :: env)


section
variable {P : Program} {ops : Array Oper} {Q : Exit → Act → World → Prop} {n : Nat} {eff : Nat → List Nat} {S : List Nat} {w0 : World} {a0 : Act} {tail : List Oper}
/-- What the walk says of each operation. -/
def Good3 (P : Program) (ops : Array Oper) (Q : Exit → Act → World → Prop) (n : Nat) (eff : Nat → List Nat) (S : List Nat) (w0 : World) (a0 : Act) (tail : List Oper) (G : List (Value → World → Prop)) : Prop :=
  G.length = n ∧ (∀ (j : Nat) (g : Value → World → Prop), G[j]? = some g → StaysBut3 eff j g) ∧
  (∀ (i : Nat) (o : Oper) (g : Value → World → Prop), ops[i]? = some o → G[i]? = some g → ∀ a w, Mid3 ops n eff S w0 a0 a w → Ahead3 eff i w0 w → Deps2 ops G o a w → wpOp P ops Q i (Leaves3 (eff i) o a w g) a w) ∧
  (∀ a w, Mid3 ops n eff S w0 a0 a w → (∀ (j : Nat) (g : Value → World → Prop) (oj : Oper), G[j]? = some g → ops[j]? = some oj → g (leftBy oj a) w) → wpList P ops Q tail a w)

theorem walk_good3 : ∀ (l : List Oper) (k : Nat) (env : List (Value → World → Prop)), (∀ (j : Nat) (o : Oper), l[j]? = some o → ops[k + j]? = some o) → k + l.length = n → env.length = k →
    (∀ (j : Nat) (g : Value → World → Prop), env.reverse[j]? = some g → StaysBut3 eff j g) →
    (∀ (i : Nat) (o : Oper) (g : Value → World → Prop), ops[i]? = some o → env.reverse[i]? = some g → ∀ a w, Mid3 ops n eff S w0 a0 a w → Ahead3 eff i w0 w → Deps2 ops env.reverse o a w → wpOp P ops Q i (Leaves3 (eff i) o a w g) a w) →
    Walk3 P ops Q n eff S w0 a0 tail k l env → ∃ G, Good3 P ops Q n eff S w0 a0 tail G := by
  intro l
  induction l with
  | nil =>
    intro k env hl hn hk hlast hstep h
    exact ⟨env.reverse, by simp at hn ⊢; omega, hlast, hstep, h⟩
  | cons o rest ih =>
    intro k env hl hn hk hlast hstep h
    obtain ⟨G, hG, hs, hc⟩ := h
    have ho : ops[k]? = some o := by
      simpa using hl 0 o (by simp)
    have hlen : env.reverse.length = k := by simp [hk]
    have hold : ∀ (j : Nat) (g : Value → World → Prop), (G :: env).reverse[j]? = some g → (j < k ∧ env.reverse[j]? = some g) ∨ (j = k ∧ g = G) := by
      intro j g hg
      rw [List.reverse_cons] at hg
      rcases Nat.lt_or_ge j k with hjk | hjk
      · rw [List.getElem?_append_left (by omega)] at hg
        exact .inl ⟨hjk, hg⟩
      · rw [List.getElem?_append_right (by omega), hlen] at hg
        rcases Nat.lt_or_ge j (k + 1) with h | h
        · obtain rfl : j = k := by omega
          simp at hg
          exact .inr ⟨rfl, hg.symm⟩
        · rw [List.getElem?_eq_none (by simp; omega)] at hg; cases hg
    refine ih (k + 1) (G :: env) (fun j o' ho' => ?_) (by simp at hn; omega) (by simp [hk]) (fun j g hg => ?_) (fun i o' g hi hg a w hm ha hd => ?_) hc
    · have := hl (j + 1) o' (by simpa using ho')
      rwa [show k + 1 + j = k + (j + 1) by omega]
    · rcases hold j g hg with ⟨_, h⟩ | ⟨rfl, rfl⟩
      · exact hlast j g h
      · exact hG
    · have hd' : Deps2 ops env.reverse o' a w := by
        intro j hj g' d hg' hdst
        refine hd j hj g' d ?_ hdst
        rw [List.reverse_cons, List.getElem?_append_left (by rcases Nat.lt_or_ge j env.reverse.length with h | h; exact h; rw [List.getElem?_eq_none h] at hg'; cases hg')]
        exact hg'
      rcases hold i g hg with ⟨_, h⟩ | ⟨rfl, rfl⟩
      · exact hstep i o' g hi h a w hm ha hd'
      · rw [ho] at hi
        injection hi with hi
        subst hi
        exact hs a w hm ha hd'

/-- What holds in the midst of a region, of those operations that are done. -/
def Inv3 (ops : Array Oper) (n : Nat) (eff : Nat → List Nat) (S : List Nat) (w0 : World) (a0 : Act) (G : List (Value → World → Prop)) (listed : Array Bool) (a : Act) (w : World) : Prop :=
  listed.size = ops.size ∧ (∀ j, n ≤ j → listed.getD j false = false) ∧ Mid3 ops n eff S w0 a0 a w ∧
  (∀ i g, g ∈ eff i → listed.getD i false = false → g < w0.heap.size → w.heap[g]? = w0.heap[g]?) ∧ ClosedL ops listed ∧
  ∀ (j : Nat) (g : Value → World → Prop) (oj : Oper), listed.getD j false = true → G[j]? = some g → ops[j]? = some oj → g (leftBy oj a) w

theorem inv_any3 (hsub : allOf eff S) (hdis : ∀ i j g, g ∈ eff i → g ∈ eff j → i = j) (hfit : fitHead ops n = true) (htail : TailLate ops n) (htl : ∀ j, tail[j]? = ops[n + j]?) (hslots : ∀ (i : Nat) (o : Oper) (d : Tmp), ops[i]? = some o → o.dst = some d → d < a0.tmps.size) {G : List (Value → World → Prop)} (hG : Good3 P ops Q n eff S w0 a0 tail G) :
    ∀ (fuel : Nat) (listed : Array Bool) (a : Act) (w : World), listed.toList.count false = fuel → Inv3 ops n eff S w0 a0 G listed a w → wpAny P .any ops Q fuel listed a w := by
  obtain ⟨hGl, hlast, hstep, hend⟩ := hG
  have hn := fit2_n hfit
  have htlen : tail.length = ops.size - n := by
    rcases Nat.lt_or_ge tail.length (ops.size - n) with h | h
    · have h1 := htl tail.length
      rw [List.getElem?_eq_none (Nat.le_refl _), Array.getElem?_eq_getElem (by omega)] at h1
      cases h1
    · rcases Nat.lt_or_ge (ops.size - n) tail.length with h' | h'
      · have h1 := htl (ops.size - n)
        rw [List.getElem?_eq_getElem h', Array.getElem?_eq_none (by omega)] at h1
        cases h1
      · omega
  -- the head is done: the tail follows in its order
  have hdone : ∀ (listed : Array Bool) (a : Act) (w : World), (∀ j, j < n → listed.getD j false = true) → Inv3 ops n eff S w0 a0 G listed a w → wpAny P .any ops Q (ops.size - n) listed a w := by
    intro listed a w hall ⟨hsz, htf, hm, _, _, hg⟩
    have hl : listed = (List.replicate n true ++ List.replicate (ops.size - n) false).toArray := by
      apply Array.ext
      · simp [hsz]; omega
      · intro i h1 h2
        rcases Nat.lt_or_ge i n with h | h
        · have := hall i h
          simp only [Array.getD, h1, dite_true] at this
          rw [show listed[i] = true from this]
          simp [h]
        · have := htf i h
          simp only [Array.getD, h1, dite_true] at this
          rw [show listed[i] = false from this]
          simp [List.getElem_append, Nat.not_lt.2 h]
    have hw := hend a w hm fun j g oj hj hd => hg j g oj (hall j (by rcases Nat.lt_or_ge j G.length with h | h; omega; rw [List.getElem?_eq_none h] at hj; cases hj)) hj hd
    have := wpAny_of_seq (md := .any) (Q' := Q) tail n listed a w htl (by rw [htlen, hl]; exact fit2_seq hfit) hw
    rwa [htlen] at this
  have hcnt : ∀ listed : Array Bool, listed.size = ops.size → (∀ j, j < n → listed.getD j false = true) → (∀ j, n ≤ j → listed.getD j false = false) → listed.toList.count false = ops.size - n := by
    intro listed hsz hall htf
    have hl : listed = (List.replicate n true ++ List.replicate (ops.size - n) false).toArray := by
      apply Array.ext
      · simp [hsz]; omega
      · intro i h1 h2
        rcases Nat.lt_or_ge i n with h | h
        · have := hall i h
          simp only [Array.getD, h1, dite_true] at this
          rw [show listed[i] = true from this]
          simp [h]
        · have := htf i h
          simp only [Array.getD, h1, dite_true] at this
          rw [show listed[i] = false from this]
          simp [List.getElem_append, Nat.not_lt.2 h]
    rw [hl]
    simp [List.count_append, List.count_replicate]
  intro fuel
  induction fuel with
  | zero =>
    intro listed a w hc hI
    have hall : ∀ j, j < n → listed.getD j false = true := by
      intro j hj
      have hjl : j < listed.size := by rw [hI.1]; omega
      have hnm := List.count_eq_zero.1 hc
      cases hb : listed[j] with
      | true => simp [Array.getD, hjl]; exact hb
      | false => exact absurd (by rw [← hb]; simp) hnm
    have := hdone listed a w hall hI
    rwa [← hcnt listed hI.1 hall hI.2.1, hc] at this
  | succ fuel ih =>
    intro listed a w hc hI
    by_cases hall : ∀ j, j < n → listed.getD j false = true
    · have := hdone listed a w hall hI
      rwa [← hcnt listed hI.1 hall hI.2.1, hc] at this
    · obtain ⟨hsz, htf, hm, hahead, hcl, hg⟩ := hI
      -- the least one that is not done is ready
      have hex : ∃ j, j < n ∧ listed.getD j false = false ∧ ∀ i, i < j → listed.getD i false = true := by
        have h1 : ∃ j, j < n ∧ listed.getD j false = false := by
          rcases Classical.em (∃ j, j < n ∧ listed.getD j false = false) with h | h
          · exact h
          · exfalso
            apply hall
            intro j hj
            cases hb : listed.getD j false with
            | true => rfl
            | false => exact absurd ⟨j, hj, hb⟩ h
        have h2 : ∀ m, (∃ j, j < m ∧ j < n ∧ listed.getD j false = false) → ∃ j, j < n ∧ listed.getD j false = false ∧ ∀ i, i < j → listed.getD i false = true := by
          intro m
          induction m with
          | zero => rintro ⟨j, hj, _⟩; omega
          | succ m ihm =>
            rintro ⟨j, hj, hjn, hjf⟩
            by_cases hl : ∃ j, j < m ∧ j < n ∧ listed.getD j false = false
            · exact ihm hl
            · refine ⟨j, hjn, hjf, fun i hi => ?_⟩
              cases hb : listed.getD i false with
              | true => rfl
              | false => exact absurd ⟨i, by omega, by omega, hb⟩ hl
        obtain ⟨j, hj, hjf⟩ := h1
        exact h2 (j + 1) ⟨j, by omega, hj, hjf⟩
      obtain ⟨j0, hj0n, hj0f, hj0l⟩ := hex
      refine ⟨fun hr => ?_, fun i hi => ?_⟩
      · exfalso
        have hjs : j0 < ops.size := by omega
        have hin : j0 ∈ Region.ready .any ops listed := by
          unfold Region.ready
          rw [List.mem_filter, List.mem_range]
          refine ⟨hjs, ?_⟩
          have hjl : j0 < listed.size := by omega
          have h1 : listed.getD j0 true = false := by
            simp only [Array.getD, hjl, dite_true] at hj0f ⊢
            exact hj0f
          rw [h1, Array.getElem?_eq_getElem hjs]
          simp only [Bool.not_false, Option.map_some, Option.getD_some, Bool.true_and, Array.all_eq_true_iff_forall_mem]
          intro e he
          cases hbd : Region.binds .any e with
          | false => rfl
          | true =>
            have hmem : e.on ∈ depsOn ops[j0] := by
              unfold depsOn
              rw [List.mem_map]
              exact ⟨e, List.mem_filter.2 ⟨by simpa using he, hbd⟩, rfl⟩
            have hlt := fit2_dep hfit hj0n (Array.getElem?_eq_getElem hjs) hmem
            rw [hj0l e.on hlt]
            rfl
        rw [hr] at hin
        cases hin
      · unfold Region.ready at hi
        rw [List.mem_filter, List.mem_range] at hi
        obtain ⟨his, hi2⟩ := hi
        have hil : i < listed.size := by omega
        have ho : ops[i]? = some ops[i] := Array.getElem?_eq_getElem his
        rw [ho] at hi2
        simp only [Option.map_some, Option.getD_some, Bool.and_eq_true, Array.all_eq_true_iff_forall_mem] at hi2
        have hdl : ∀ j ∈ depsOn ops[i], listed.getD j false = true := by
          intro j hj
          unfold depsOn at hj
          rw [List.mem_map] at hj
          obtain ⟨e, he, rfl⟩ := hj
          obtain ⟨he1, he2⟩ := List.mem_filter.1 he
          have := hi2.2 e (by simpa using he1)
          rw [he2] at this
          simpa using this
        have hin : i < n := by
          rcases Nat.lt_or_ge i n with h | h
          · exact h
          · exfalso
            have := htail listed i _ hcl (by omega) ho hdl j0 hj0n
            rw [hj0f] at this
            cases this
        have hgi : G[i]? = some (G[i]'(by omega)) := List.getElem?_eq_getElem (by omega)
        have hfalse : listed[i] = false := by
          have := hi2.1
          simp only [Array.getD, hil, dite_true] at this
          simpa using this
        have hfalse' : listed.getD i false = false := by simp only [Array.getD, hil, dite_true]; exact hfalse
        have hdeps : Deps2 ops G ops[i] a w := fun j hj g oj hgj hd => hg j g oj (hdl j hj) hgj hd
        have hahd : Ahead3 eff i w0 w := fun g he hlt => hahead i g he hfalse' hlt
        refine wpOp_mono ?_ (wpOp_new ho (hstep i _ _ ho hgi a w hm hahd hdeps))
        rintro a' w' ⟨⟨v, rfl, hgr, hv, hlv⟩, hnew⟩
        have hother : ∀ (x : Nat) (ox : Oper) (d : Tmp), x < n → x ≠ i → ops[x]? = some ox → ox.dst = some d → (a.put ops[i].dst v).eval (.tmp d) = a.eval (.tmp d) := fun x ox d hxn hxi hox hd => by
          rw [eval_put_ne2]
          intro e
          exact hxi (fit2_dst hfit hxn hin hox ho hd e)
        have hself : ∀ d, ops[i].dst = some d → isNew ops[i] = true → (a.put ops[i].dst v).eval (.tmp d) = .pointer (some ⟨w.heap.size, 0, none⟩) ∧ w.heap.size < w'.heap.size := fun d hd hn => by
          obtain ⟨h1, h2⟩ := hnew hn
          rw [h1]
          refine ⟨?_, h2⟩
          rw [hd, eval_put_eq2]
          rw [hm.size]
          exact hslots i _ d ho hd
        have hset : ∀ j, j ≠ i → (listed.setIfInBounds i true).getD j false = listed.getD j false := by
          intro j hj
          simp only [Array.getD_eq_getD_getElem?, Array.getElem?_setIfInBounds]
          rw [if_neg (fun e => hj e.symm)]
        refine ih _ _ _ ?_ ⟨by simp [hsz], fun j hj => ?_, ⟨hm.grow.trans3 hgr (hsub i), by rw [put_size2]; exact hm.size, by rw [put_defers2]; exact hm.defers, fun t ht => ?_, fun x ox d hxn hox hxnew hd hne => ?_, fun x y ox oy dx dy hxy hxn hyn hox hoy hxnew hynew hdx hdy hnx hny => ?_⟩, fun e g he hel hlt => ?_, fun x ox hx hox j hj => ?_, fun j g oj hj hgj hd => ?_⟩
        · have := count_set2 listed.toList i (by simp [hfalse, hil])
          rw [Array.toList_setIfInBounds]
          omega
        · rw [hset j (by omega)]
          exact htf j hj
        · rw [eval_put_ne2]
          · exact hm.outer t ht
          · rw [List.all_eq_true] at ht
            have hmem : ops[i] ∈ ops.toList.take n := by
              rw [List.mem_iff_getElem?]
              exact ⟨i, by rw [List.getElem?_take, if_pos hin]; simp⟩
            simpa using ht ops[i] hmem
        · by_cases hxi : x = i
          · subst hxi
            rw [ho] at hox
            injection hox with hox
            subst hox
            obtain ⟨h1, h2⟩ := hself d hd hxnew
            exact ⟨_, h1, h2⟩
          · rw [hother x ox d hxn hxi hox hd] at hne ⊢
            obtain ⟨g, h1, h2⟩ := hm.news x ox d hxn hox hxnew hd hne
            exact ⟨g, h1, Nat.lt_of_lt_of_le h2 hgr.size⟩
        · by_cases hxi : x = i
          · subst hxi
            rw [ho] at hox
            injection hox with hox
            subst hox
            have h1 := (hself dx hdx hxnew).1
            rw [hother y oy dy hyn (fun e => hxy e.symm) hoy hdy] at hny ⊢
            obtain ⟨g, h2, h3⟩ := hm.news y oy dy hyn hoy hynew hdy hny
            rw [h1, h2]
            intro e
            injection e with e
            injection e with e
            injection e with e
            omega
          · by_cases hyi : y = i
            · subst hyi
              rw [ho] at hoy
              injection hoy with hoy
              subst hoy
              have h1 := (hself dy hdy hynew).1
              rw [hother x ox dx hxn hxi hox hdx] at hnx ⊢
              obtain ⟨g, h2, h3⟩ := hm.news x ox dx hxn hox hxnew hdx hnx
              rw [h1, h2]
              intro e
              injection e with e
              injection e with e
              injection e with e
              omega
            · rw [hother x ox dx hxn hxi hox hdx] at hnx ⊢
              rw [hother y oy dy hyn hyi hoy hdy] at hny ⊢
              exact hm.apart x y ox oy dx dy hxy hxn hyn hox hoy hxnew hynew hdx hdy hnx hny
        · have hie : e ≠ i := by
            rintro rfl
            simp only [Array.getD_eq_getD_getElem?, Array.getElem?_setIfInBounds] at hel
            simp [hil] at hel
          rw [hset e hie] at hel
          have hw := hahead e g he hel hlt
          rw [hgr.block g (Nat.lt_of_lt_of_le hlt hm.grow.size) (fun h => hie (hdis e i g he h))]
          exact hw
        · have hdone : listed.getD j false = true := by
            by_cases hxi : x = i
            · subst hxi
              rw [ho] at hox
              injection hox with hox
              subst hox
              exact hdl j hj
            · rw [hset x hxi] at hx
              exact hcl x ox hx hox j hj
          have hji : j ≠ i := by
            rintro rfl
            rw [hfalse'] at hdone
            cases hdone
          rw [hset j hji]
          exact hdone
        · by_cases hij : j = i
          · subst hij
            rw [hgi] at hgj
            injection hgj with hgj
            subst hgj
            rw [ho] at hd
            injection hd with hd
            subst hd
            unfold leftBy
            cases hdd : ops[j].dst with
            | none => rw [hlv hdd] at hv; exact hv
            | some d =>
              simp only
              rw [eval_put_eq2]
              · exact hv
              · rw [hm.size]; exact hslots j _ d ho hdd
          · rw [hset j hij] at hj
            have hv' := hg j g oj hj hgj hd
            have hsame : leftBy oj (a.put ops[i].dst v) = leftBy oj a := by
              unfold leftBy
              cases hdj : oj.dst with
              | none => rfl
              | some d =>
                simp only
                rw [eval_put_ne2]
                intro hdi
                have hjn : j < n := by
                  rcases Nat.lt_or_ge j n with h | h
                  · exact h
                  · rw [htf j h] at hj; cases hj
                exact hij (fit2_dst hfit hjn hin hd ho hdj hdi)
            rw [hsame]
            exact hlast j g hgj i (fun e => hij e.symm) _ _ _ hv' hgr

/-- Every order of such a region. -/
theorem region_tail_any3 {l : List Oper} (n : Nat) (eff : Nat → List Nat) (S : List Nat) (hsub : allOf eff S) (hdis : ∀ i j g, g ∈ eff i → g ∈ eff j → i = j) (hfit : fitHead l.toArray n = true) (htail : TailLate l.toArray n) (hslots : (l.all fun o => match o.dst with | some d => decide (d < a0.tmps.size) | none => true) = true)
    (h : Walk3 P l.toArray Q n eff S w0.drew a0 (l.drop n) 0 (l.take n) []) : wpAny P .any l.toArray Q l.toArray.size (Array.replicate l.toArray.size false) a0 { w0 with drawn := w0.drawn + 1 } := by
  have hn := fit2_n hfit
  have hn' : n ≤ l.length := by simpa using hn
  obtain ⟨G, hG⟩ := walk_good3 (l.take n) 0 [] (fun j o hj => by
      rw [List.getElem?_take] at hj
      split at hj
      · simpa using hj
      · cases hj) (by simp; omega) rfl (fun j g hg => by simp at hg) (fun i o g _ hg => by simp at hg) h
  refine inv_any3 (w0 := w0.drew) hsub hdis hfit htail (fun j => by simp [List.getElem?_drop]) ?_ hG _ _ _ _ ?_ ⟨by simp, fun j _ => ?_, ⟨⟨rfl, rfl, rfl, Nat.le_refl _, fun _ _ _ => rfl⟩, rfl, rfl, fun _ _ => rfl, fun _ _ _ _ _ _ _ h => absurd rfl h, fun _ _ _ _ _ _ _ _ _ _ _ _ _ _ _ h => absurd rfl h⟩, fun _ _ _ _ _ => rfl, fun i o hi => ?_, fun j g oj hj => ?_⟩
  · intro i o d ho hd
    have hmem : o ∈ l := by
      have : l[i]? = some o := by simpa using ho
      exact List.mem_of_getElem? this
    have := List.all_eq_true.1 hslots o hmem
    rw [hd] at this
    simpa using this
  · simp
  · simp only [Array.getD_eq_getD_getElem?, Array.getElem?_replicate]
    split <;> rfl
  · simp only [Array.getD_eq_getD_getElem?, Array.getElem?_replicate] at hi
    split at hi <;> simp at hi
  · simp only [Array.getD_eq_getD_getElem?, Array.getElem?_replicate] at hj
    split at hj <;> simp at hj
theorem wp_region_tail3 {id : Nat} {l : List Oper} (n : Nat) (eff : Nat → List Nat) (S : List Nat) (hsub : allOf eff S) (hdis : ∀ i j g, g ∈ eff i → g ∈ eff j → i = j) (hm : P.follows .mixedOrders = true) (hfit : fitHead l.toArray n = true) (htail : TailLate l.toArray n) (hslots : (l.all fun o => match o.dst with | some d => decide (d < a0.tmps.size) | none => true) = true)
    (h : Walk3 P l.toArray Q n eff S w0.drew a0 (l.drop n) 0 (l.take n) []) : (Code.region id l.toArray true).wp P Q a0 w0 :=
  wp_region_any hm (region_tail_any3 n eff S hsub hdis hfit htail hslots h)
/-- THE RULE. -/
theorem wp_region_walk2X {id : Nat} {l : List Oper} (n : Nat) (eff : Nat → List Nat) (S : List Nat) (hsub : allOf eff S) (hdis : ∀ i j g, g ∈ eff i → g ∈ eff j → i = j) (hm : P.follows .mixedOrders = true) (hfit : fit2 l.toArray n = true) (hslots : (l.all fun o => match o.dst with | some d => decide (d < a0.tmps.size) | none => true) = true)
    (h : Walk3 P l.toArray Q n eff S w0.drew a0 (l.drop n) 0 (l.take n) []) : (Code.region id l.toArray true).wp P Q a0 w0 :=
  wp_region_tail3 n eff S hsub hdis hm (by simp only [fit2, Bool.and_eq_true] at hfit; exact hfit.1) (fit2_tail hfit) hslots h
/-- The same where the others are bound by the first n through one another. -/
theorem wp_region_walkX {id : Nat} {l : List Oper} (n : Nat) (eff : Nat → List Nat) (S : List Nat) (hsub : allOf eff S) (hdis : ∀ i j g, g ∈ eff i → g ∈ eff j → i = j) (hm : P.follows .mixedOrders = true) (hfit : fit3 l.toArray n = true) (hslots : (l.all fun o => match o.dst with | some d => decide (d < a0.tmps.size) | none => true) = true)
    (h : Walk3 P l.toArray Q n eff S w0.drew a0 (l.drop n) 0 (l.take n) []) : (Code.region id l.toArray true).wp P Q a0 w0 :=
  wp_region_tail3 n eff S hsub hdis hm (by simp only [fit3, Bool.and_eq_true] at hfit; exact hfit.1) (fit3_tail hfit) hslots h

theorem stays3_is (u : Value) (j : Nat) : StaysBut3 eff j (Is u) := fun _ _ _ _ _ h _ => h
/-- An operation that is no call: its value. -/
theorem Walk3.val {env : List (Value → World → Prop)} {k : Nat} {o : Oper} {rest : List Oper} {G : Value → World → Prop} (hl : StaysBut3 eff k G) (ho : ops[k]? = some o) (hdst : o.dst.isSome = true)
    (hs : ∀ a w, Mid3 ops n eff S w0 a0 a w → Deps2 ops env.reverse o a w → Wanted ops o a ∧ ∃ v, (execOp a.eval o).run P w = .ok (.value v) w ∧ G v w)
    (hc : Walk3 P ops Q n eff S w0 a0 tail (k + 1) rest (G :: env)) : Walk3 P ops Q n eff S w0 a0 tail k (o :: rest) env := by
  refine ⟨G, hl, fun a w hm _ hd => ?_, hc⟩
  obtain ⟨hw, v, hr, hG⟩ := hs a w hm hd
  unfold wpOp
  rw [ho]
  simp only
  rw [if_pos (show Region.wanted o (yielded ops a.tmps) = true from hw)]
  refine .inl ?_
  unfold Oper.wp
  rw [hr, Oper.upon_value]
  exact ⟨v, rfl, GrownX.refl _ _, hG, fun h => by rw [h] at hdst; cases hdst⟩

/-- A call of a Go function. -/
theorem Walk3.call {env : List (Value → World → Prop)} {k : Nat} {o : Oper} {rest : List Oper} {G : Value → World → Prop} (hl : StaysBut3 eff k G) (ho : ops[k]? = some o) (f : FuncId) (hdst : o.dst.isSome = true)
    (hs : ∀ a w, Mid3 ops n eff S w0 a0 a w → Ahead3 eff k w0 w → Deps2 ops env.reverse o a w → Wanted ops o a ∧ ∃ args, (execOp a.eval o).run P w = .ok (.enter f args) w ∧ Calls P f args w fun e w' => ∃ v, e = .returned v ∧ GrownX (eff k) w w' ∧ G v w')
    (hc : Walk3 P ops Q n eff S w0 a0 tail (k + 1) rest (G :: env)) : Walk3 P ops Q n eff S w0 a0 tail k (o :: rest) env := by
  refine ⟨G, hl, fun a w hm ha hd => ?_, hc⟩
  obtain ⟨hw, args, hr, hC⟩ := hs a w hm ha hd
  unfold wpOp
  rw [ho]
  simp only
  rw [if_pos (show Region.wanted o (yielded ops a.tmps) = true from hw)]
  refine .inl ?_
  unfold Oper.wp
  rw [hr, Oper.upon_enter]
  refine hC.mono ?_
  rintro e w' ⟨v, rfl, hg, hG⟩
  exact ⟨v, rfl, hg, hG, fun h => by rw [h] at hdst; cases hdst⟩

/-- A store. -/
theorem Walk3.store {env : List (Value → World → Prop)} {k : Nat} {o : Oper} {rest : List Oper} {G : World → Prop} (hl : StaysBut3 eff k (fun _ => G)) (ho : ops[k]? = some o)
    (hs : ∀ a w, Mid3 ops n eff S w0 a0 a w → Ahead3 eff k w0 w → Deps2 ops env.reverse o a w → Wanted ops o a ∧ ∃ w', (execOp a.eval o).run P w = .ok .skip w' ∧ GrownX (eff k) w w' ∧ G w')
    (hc : Walk3 P ops Q n eff S w0 a0 tail (k + 1) rest ((fun _ => G) :: env)) : Walk3 P ops Q n eff S w0 a0 tail k (o :: rest) env := by
  refine ⟨fun _ => G, hl, fun a w hm ha hd => ?_, hc⟩
  obtain ⟨hw, w', hr, hg, hG⟩ := hs a w hm ha hd
  unfold wpOp
  rw [ho]
  simp only
  rw [if_pos (show Region.wanted o (yielded ops a.tmps) = true from hw)]
  refine .inl ?_
  unfold Oper.wp
  rw [hr, Oper.upon_skip]
  exact ⟨undef, rfl, hg, hG, fun _ => rfl⟩

/-- An operation that makes memory, in a region that draws its order. -/
theorem Walk3.make {env : List (Value → World → Prop)} {k : Nat} {o : Oper} {rest : List Oper} {G : Value → World → Prop} (hl : StaysBut3 eff k G) (ho : ops[k]? = some o) (hdst : o.dst.isSome = true)
    (hs : ∀ a w, Mid3 ops n eff S w0 a0 a w → Ahead3 eff k w0 w → Deps2 ops env.reverse o a w → Wanted ops o a ∧ ∃ v w', (execOp a.eval o).run P w = .ok (.value v) w' ∧ GrownX (eff k) w w' ∧ G v w')
    (hc : Walk3 P ops Q n eff S w0 a0 tail (k + 1) rest (G :: env)) : Walk3 P ops Q n eff S w0 a0 tail k (o :: rest) env := by
  refine ⟨G, hl, fun a w hm ha hd => ?_, hc⟩
  obtain ⟨hw, v, w', hr, hg, hG⟩ := hs a w hm ha hd
  unfold wpOp
  rw [ho]
  simp only
  rw [if_pos (show Region.wanted o (yielded ops a.tmps) = true from hw)]
  refine .inl ?_
  unfold Oper.wp
  rw [hr, Oper.upon_value]
  exact ⟨v, rfl, hg, hG, fun h => by rw [h] at hdst; cases hdst⟩
/-- The frame behind a region's head, written out. -/
theorem Mid3.frame {a : Act} {w : World} (h : Mid3 ops n eff S w0 a0 a w) : a = ((ops.toList.take n).filterMap fun o => o.dst).foldl (fun b d => b.put (some d) (a.eval (.tmp d))) a0 := by
  obtain ⟨h1, h2, h3⟩ := foldl_put (fun d => a.eval (.tmp d)) ((ops.toList.take n).filterMap fun o => o.dst) a0
  have ht : a.tmps = (((ops.toList.take n).filterMap fun o => o.dst).foldl (fun b d => b.put (some d) (a.eval (.tmp d))) a0).tmps := by
    apply Array.ext_getElem?
    intro t
    rcases Nat.lt_or_ge t a0.tmps.size with hlt | hge
    · rw [h3 t hlt]
      have hlt' : t < a.tmps.size := by rw [h.size]; exact hlt
      have hev : a.tmps[t]? = some (a.eval (.tmp t)) := by simp [Act.eval, hlt']
      split
      · exact hev
      · rename_i hnm
        have := h.outer t (by
          rw [List.all_eq_true]
          intro o ho
          have : o.dst ≠ some t := fun e => hnm (List.mem_filterMap.2 ⟨o, ho, e⟩)
          simpa using this)
        rw [hev, this]
        simp [Act.eval, hlt]
    · rw [Array.getElem?_eq_none (by rw [h.size]; exact hge), Array.getElem?_eq_none (by rw [h1]; exact hge)]
  obtain ⟨tm, df⟩ := a
  have hd : df = _ := h.defers.trans h2.symm
  generalize hX : ((ops.toList.take n).filterMap fun o => o.dst).foldl (fun b d => b.put (some d) (Act.eval ⟨tm, df⟩ (.tmp d))) a0 = X at ht hd ⊢
  obtain ⟨tx, dx⟩ := X
  simp only at ht hd
  rw [ht, hd]
end
end Go.Proofs.Ytohndlfekecfoaa
