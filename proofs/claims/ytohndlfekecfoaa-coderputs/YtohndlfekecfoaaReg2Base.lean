/-
  The steps of such a region, an operation each; the frame behind it.
-/
import Derived.Test.YtohndlfekecfoaaReg2
import Derived.Test.YtohndlfekecfoaaRegBase
namespace Go.Proofs.Ytohndlfekecfoaa
set_option maxRecDepth 1000000
open Go.RowKit

section
variable {P : Program} {ops : Array Oper} {Q : Exit → Act → World → Prop} {n : Nat} {eff : List (Nat × Nat)} {w0 : World} {a0 : Act} {tail : List Oper}

theorem stays_is (u : Value) (j : Nat) : StaysBut eff j (Is u) := fun _ _ _ _ _ h _ => h
theorem stays_all {G : Value → World → Prop} (hn : Stays none G) (h : ∀ g ∈ eff.map (·.2), Stays (some g) G) (j : Nat) : StaysBut eff j G := by
  intro i _
  cases hr : rowAt eff i with
  | none => exact hn
  | some g => exact h g (rowAt_mem hr)
/-- Of an operation that turns block b: what it leaves lasts while no other block that is turned is b. -/
theorem stays_own {G : Value → World → Prop} (hdis : ∀ i j g, rowAt eff i = some g → rowAt eff j = some g → i = j) {k b : Nat} (hk : rowAt eff k = some b) (hn : Stays none G) (h : ∀ g ∈ eff.map (·.2), g ≠ b → Stays (some g) G) : StaysBut eff k G := by
  intro i hi
  cases hr : rowAt eff i with
  | none => exact hn
  | some g => exact h g (rowAt_mem hr) (fun e => hi (hdis i k g hr (by rw [e]; exact hk)))

theorem Deps2.at_ {env : List (Value → World → Prop)} {o : Oper} {a : Act} {w : World} (h : Deps2 ops env o a w) (j : Nat) {G : Value → World → Prop} {d : Tmp} {oj : Oper} (hj : (depsOn o).contains j = true) (hG : env[j]? = some G)
    (ho : ops[j]? = some oj) (hd : oj.dst = some d) : G (a.eval (.tmp d)) w := by
  have := h j (by simpa using hj) G oj hG ho
  unfold leftBy at this
  rw [hd] at this
  exact this
theorem left_at_ {o : Oper} {a : Act} {d : Tmp} (h : o.dst = some d) : leftBy o a = a.eval (.tmp d) := by unfold leftBy; rw [h]

/-- An operation that is no call: its value. -/
theorem Walk.val {env : List (Value → World → Prop)} {k : Nat} {o : Oper} {rest : List Oper} {G : Value → World → Prop} (hl : StaysBut eff k G) (ho : ops[k]? = some o) (hdst : o.dst.isSome = true)
    (hs : ∀ a w, Mid2 ops n eff w0 a0 a w → Deps2 ops env.reverse o a w → Wanted ops o a ∧ ∃ v, (execOp a.eval o).run P w = .ok (.value v) w ∧ G v w)
    (hc : Walk P ops Q n eff w0 a0 tail (k + 1) rest (G :: env)) : Walk P ops Q n eff w0 a0 tail k (o :: rest) env := by
  refine ⟨G, hl, fun a w hm _ hd => ?_, hc⟩
  obtain ⟨hw, v, hr, hG⟩ := hs a w hm hd
  unfold wpOp
  rw [ho]
  simp only
  rw [if_pos (show Region.wanted o (yielded ops a.tmps) = true from hw)]
  refine .inl ?_
  unfold Oper.wp
  rw [hr, Oper.upon_value]
  exact ⟨v, rfl, grown_refl _ _, hG, fun h => by rw [h] at hdst; cases hdst⟩

/-- A call of a Go function. -/
theorem Walk.call {env : List (Value → World → Prop)} {k : Nat} {o : Oper} {rest : List Oper} {G : Value → World → Prop} (hl : StaysBut eff k G) (ho : ops[k]? = some o) (f : FuncId) (hdst : o.dst.isSome = true)
    (hs : ∀ a w, Mid2 ops n eff w0 a0 a w → Ahead eff k w0 w → Deps2 ops env.reverse o a w → Wanted ops o a ∧ ∃ args, (execOp a.eval o).run P w = .ok (.enter f args) w ∧ Calls P f args w fun e w' => ∃ v, e = .returned v ∧ w.grownBy w' (rowAt eff k) ∧ G v w')
    (hc : Walk P ops Q n eff w0 a0 tail (k + 1) rest (G :: env)) : Walk P ops Q n eff w0 a0 tail k (o :: rest) env := by
  refine ⟨G, hl, fun a w hm ha hd => ?_, hc⟩
  obtain ⟨hw, args, hr, hC⟩ := hs a w hm ha hd
  unfold wpOp
  rw [ho]
  simp only
  rw [if_pos (show Region.wanted o (yielded ops a.tmps) = true from hw)]
  refine .inl ?_
  unfold Oper.wp
  rw [hr, Oper.upon_enter]
  refine hC.mono ?_
  rintro e w' ⟨v, rfl, hg, hG⟩
  exact ⟨v, rfl, hg, hG, fun h => by rw [h] at hdst; cases hdst⟩

/-- A store. -/
theorem Walk.store {env : List (Value → World → Prop)} {k : Nat} {o : Oper} {rest : List Oper} {G : World → Prop} (hl : StaysBut eff k (fun _ => G)) (ho : ops[k]? = some o)
    (hs : ∀ a w, Mid2 ops n eff w0 a0 a w → Ahead eff k w0 w → Deps2 ops env.reverse o a w → Wanted ops o a ∧ ∃ w', (execOp a.eval o).run P w = .ok .skip w' ∧ w.grownBy w' (rowAt eff k) ∧ G w')
    (hc : Walk P ops Q n eff w0 a0 tail (k + 1) rest ((fun _ => G) :: env)) : Walk P ops Q n eff w0 a0 tail k (o :: rest) env := by
  refine ⟨fun _ => G, hl, fun a w hm ha hd => ?_, hc⟩
  obtain ⟨hw, w', hr, hg, hG⟩ := hs a w hm ha hd
  unfold wpOp
  rw [ho]
  simp only
  rw [if_pos (show Region.wanted o (yielded ops a.tmps) = true from hw)]
  refine .inl ?_
  unfold Oper.wp
  rw [hr, Oper.upon_skip]
  exact ⟨undef, rfl, hg, hG, fun _ => rfl⟩

theorem foldl_put (f : Tmp → Value) (ds : List Tmp) (a : Act) : (ds.foldl (fun b d => b.put (some d) (f d)) a).tmps.size = a.tmps.size ∧ (ds.foldl (fun b d => b.put (some d) (f d)) a).defers = a.defers ∧
    ∀ t, t < a.tmps.size → (ds.foldl (fun b d => b.put (some d) (f d)) a).tmps[t]? = if t ∈ ds then some (f t) else a.tmps[t]? := by
  induction ds generalizing a with
  | nil => exact ⟨rfl, rfl, fun t _ => by simp⟩
  | cons d ds ih =>
    obtain ⟨h1, h2, h3⟩ := ih (a.put (some d) (f d))
    rw [List.foldl_cons]
    refine ⟨by rw [h1, put_size2], by rw [h2, put_defers2], fun t ht => ?_⟩
    rw [h3 t (by rw [put_size2]; exact ht)]
    by_cases hm : t ∈ ds
    · simp [hm]
    · by_cases he : t = d
      · subst he
        simp [hm, Act.put, ht]
      · have : (a.put (some d) (f d)).tmps[t]? = a.tmps[t]? := by
          simp only [Act.put, Array.getElem?_setIfInBounds]
          rw [if_neg (fun e => he e.symm)]
        simp [hm, he, this]

/-- The frame behind a region's head, written out. -/
theorem Mid2.frame {a : Act} {w : World} (h : Mid2 ops n eff w0 a0 a w) : a = ((ops.toList.take n).filterMap fun o => o.dst).foldl (fun b d => b.put (some d) (a.eval (.tmp d))) a0 := by
  obtain ⟨h1, h2, h3⟩ := foldl_put (fun d => a.eval (.tmp d)) ((ops.toList.take n).filterMap fun o => o.dst) a0
  have ht : a.tmps = (((ops.toList.take n).filterMap fun o => o.dst).foldl (fun b d => b.put (some d) (a.eval (.tmp d))) a0).tmps := by
    apply Array.ext_getElem?
    intro t
    rcases Nat.lt_or_ge t a0.tmps.size with hlt | hge
    · rw [h3 t hlt]
      have hlt' : t < a.tmps.size := by rw [h.size]; exact hlt
      have hev : a.tmps[t]? = some (a.eval (.tmp t)) := by simp [Act.eval, hlt']
      split
      · exact hev
      · rename_i hnm
        have := h.outer t (by
          rw [List.all_eq_true]
          intro o ho
          have : o.dst ≠ some t := fun e => hnm (List.mem_filterMap.2 ⟨o, ho, e⟩)
          simpa using this)
        rw [hev, this]
        simp [Act.eval, hlt]
    · rw [Array.getElem?_eq_none (by rw [h.size]; exact hge), Array.getElem?_eq_none (by rw [h1]; exact hge)]
  obtain ⟨tm, df⟩ := a
  have hd : df = _ := h.defers.trans h2.symm
  generalize hX : ((ops.toList.take n).filterMap fun o => o.dst).foldl (fun b d => b.put (some d) (Act.eval ⟨tm, df⟩ (.tmp d))) a0 = X at ht hd ⊢
  obtain ⟨tx, dx⟩ := X
  simp only at ht hd
  rw [ht, hd]
end
end Go.Proofs.Ytohndlfekecfoaa
