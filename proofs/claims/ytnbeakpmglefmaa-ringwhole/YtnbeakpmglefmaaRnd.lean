/-
  A range over a function that never ends by itself (of no program): a region in a round, by the plain walk; the statement's law, by the count of the rounds.
-/
import Derived.RangeFuncNested
import Derived.RangeFuncBound
import Derived.RangeFuncCalls
import Derived.RangeFuncLeaves
import Derived.TacticsInMore
import Derived.OwnWalkIn
import Derived.OrdersIn
import Derived.Test.YtnbeakpmglefmaaReg2Base
import Derived.Test.YtnbeakpmglefmaaRowOps
namespace Go.Proofs.Ytnbeakpmglefmaa
open Go.RowKit

/-- The fence of a round: whatever function may be called. -/
abbrev rnd (l : Nat) : Fence := Fence.wide.inRound l

section
variable {P : Program} {ops : Array Oper} {Q : Exit → Act → World → Prop} {l : Nat}

theorem upon_round {o : Oper} {a : Act} {next : Act → World → Prop} {r : Result Next} (h : o.upon P a next Q r) : o.uponIn (rnd l) 0 P a next Q r := by
  cases r with
  | ok x w =>
    cases x with
    | value v => exact h
    | skip => exact h
    | defer d => exact h
    | enter f args => exact ⟨(fun e => by cases e), callsIn_wide.2 h⟩
    | row r args =>
      refine ⟨(fun e => by cases e), fun c cs _ => ?_⟩
      obtain ⟨v, w', hr, hs⟩ := h c cs
      exact ⟨v, w', hr, stepsIn_wide.2 hs⟩
    | _ => exact h.elim
  | halt x w =>
    cases x with
    | panic v => exact h
    | _ => exact h.elim

/-- No operation of these defers a call. -/
def noDefer (l : List Oper) : Bool := l.all fun o => match o.op with | .defer _ => false | _ => true
theorem noDefer_at {L : List Oper} (h : noDefer L = true) {o : Oper} (ho : o ∈ L) (c : Call) : o.op ≠ .defer c := by
  intro e
  have := List.all_eq_true.1 h o ho
  rw [e] at this
  cases this
theorem oper_round {o : Oper} {a : Act} {w : World} {next : Act → World → Prop} (hd : ∀ c, o.op ≠ .defer c) (h : o.wp P a w next Q) : o.wpIn (rnd l) 0 P a w next Q := by
  refine ⟨fun _ _ => trivial, ?_⟩
  rw [show (rnd l).round = some l from rfl, Oper.semAt_some l _ _ hd]
  exact upon_round h
theorem list_round (hout : ∀ a w, ¬ Q .outgrown a w) : ∀ (L : List Oper), (∀ o ∈ L, ∀ c, o.op ≠ .defer c) → ∀ a w, wpList P ops Q L a w → wpListIn (rnd l) 0 P ops Q L a w
  | [], _, _, _, h => h
  | o :: L, hd, a, w, h => by
    have hL := list_round hout L (fun o' ho' => hd o' (List.mem_cons_of_mem _ ho'))
    unfold wpList at h
    unfold wpListIn
    split
    · rename_i hw
      rw [if_pos hw] at h
      rcases h with h | ⟨_, a', w', h⟩
      · exact Oper.wpIn_mono (fun a w => hL a w) (oper_round (hd o List.mem_cons_self) h)
      · exact absurd h (hout a' w')
    · rename_i hw
      rw [if_neg hw] at h
      exact ⟨fun _ _ => trivial, hL _ _ h⟩
/-- A region of one order, in a round. -/
theorem region_round {id : Nat} {L : List Oper} {a : Act} {w : World} (hd : noDefer L = true) (hout : ∀ a w, ¬ Q .outgrown a w) (h : wpList P L.toArray Q L a w) : (Code.region id L.toArray false).wpIn (rnd l) 0 P Q a w :=
  wpIn_region_lit (list_round hout L (fun _ ho c => noDefer_at hd ho c) a w h)
theorem any_round (hout : ∀ a w, ¬ Q .outgrown a w) (hd : ∀ (i : Nat) (o : Oper), ops[i]? = some o → ∀ c, o.op ≠ .defer c) (md : Region.Mode) : ∀ (fuel : Nat) (listed : Array Bool) (a : Act) (w : World),
    wpAny P md ops Q fuel listed a w → wpAnyIn (rnd l) 0 P md ops Q fuel listed a w
  | 0, _, _, _, h => h
  | fuel + 1, listed, a, w, h => by
    refine ⟨h.1, fun i hi => ?_⟩
    have h1 := h.2 i hi
    unfold wpOp at h1
    unfold wpOpIn
    cases ho : ops[i]? with
    | none =>
      rw [ho] at h1
      exact any_round hout hd md fuel _ a w h1
    | some o =>
      rw [ho] at h1
      simp only at h1 ⊢
      split
      · rename_i hw
        rw [if_pos hw] at h1
        rcases h1 with h1 | ⟨_, a', w', h1⟩
        · exact Oper.wpIn_mono (fun a w => any_round hout hd md fuel _ a w) (oper_round (hd i o ho) h1)
        · exact absurd h1 (hout a' w')
      · rename_i hw
        rw [if_neg hw] at h1
        exact ⟨fun _ _ => trivial, any_round hout hd md fuel _ _ w h1⟩
/-- A region that draws its order, in a round. -/
theorem region_round_walk {id : Nat} {L : List Oper} {a0 : Act} {w0 : World} (n : Nat) (eff : List (Nat × Nat)) (hdis : ∀ i j g, rowAt eff i = some g → rowAt eff j = some g → i = j) (hm : P.follows .mixedOrders = true) (hfit : fit3 L.toArray n = true)
    (hslots : (L.all fun o => match o.dst with | some d => decide (d < a0.tmps.size) | none => true) = true) (hd : noDefer L = true) (hout : ∀ a w, ¬ Q .outgrown a w)
    (h : Walk P L.toArray Q n eff w0.drew a0 (L.drop n) 0 (L.take n) []) : (Code.region id L.toArray true).wpIn (rnd l) 0 P Q a0 w0 :=
  wpIn_region_any hm (any_round hout (fun i o ho c => noDefer_at hd (List.mem_of_getElem? (show L[i]? = some o by simpa using ho)) c) .any _ _ _ _
    (region_tail_any n eff hdis (by simp only [fit3, Bool.and_eq_true] at hfit; exact hfit.1) (fit3_tail hfit) hslots h))
end

theorem enters_at {P : Program} {f : FuncId} {fn : Func} (hf : P.funcs[f]? = some fn) (hname : (fn.name == "runtime.NumGoroutine") = false) (hb : fn.body.isSome = true) : ∀ args w, (callFunc f args).run P w = .ok (.enter f args) w := fun args w => by
  have h1 : fn.name ≠ "runtime.NumGoroutine" := by simpa using hname
  obtain ⟨c, hc⟩ := Option.isSome_iff_exists.1 hb
  simp [callFunc, hf, h1, hc, mark]

/-- The contract of such an iterator: as long as J holds fewer than N rounds are over; J lasts while memory grows, and keeps what the iterator reads (C). -/
def Ever (P : Program) (gf : Nat) (lb : Array Value) (encs : Nat → Array Value) (C : World → Prop) (N : Nat) : Prop :=
  ∀ (l : Nat) (J : Nat → World → Prop) (Jx : World → Prop) (W : World), (∀ k W, J k W → k < N ∧ C W) → (∀ k W W', J k W → W.grownBy W' none → J k W') →
    (∀ k W1, J k W1 → YieldAt Fence.wide 0 P l (encs k) W1 fun e W' => (e = .returned (.bool true) ∧ J (k + 1) W') ∨ (e = .returned (.bool false) ∧ Jx W')) →
    J 0 W → CallsIn Fence.wide 0 P gf (#[.func (.yield l) #[] #[]] ++ lb) W fun e W' => (∃ v, e = .returned v) ∧ Jx W'

/-- How a round may be left. -/
def roundEnd (B : Nat) (I : Nat → World → Prop) (X : Code → World → Prop) (k : Nat) (W : World) : Exit → Act → World → Prop
  | .normal, _, W' => KeepsFrom B W W' ∧ I (k + 1) W'
  | .ret, _, W' => KeepsFrom B W W' ∧ X .ret W'
  | .exit id, _, W' => KeepsFrom B W W' ∧ X (.exit id) W'
  | .goto t, _, W' => KeepsFrom B W W' ∧ X (.goto t) W'
  | .panic _, _, _ => False
  | .outgrown, _, _ => False
theorem roundEnd_in {B : Nat} {I : Nat → World → Prop} {X : Code → World → Prop} {k : Nat} {W : World} : ∀ a w, ¬ roundEnd B I X k W .outgrown a w := fun _ _ h => h

section
variable {P : Program}
/-- The law: what the rounds leave, and how they leave the loop. -/
theorem wp_range_ever {g : Operand} {ps : Array Tmp} {assign body : Code} {Q : Exit → Act → World → Prop} {a : Act} {w : World} {gf : Nat} {lb : Array Value}
    (hg : a.eval g = .func (.func gf) #[] lb) (eg : ∀ args w, (callFunc gf args).run P w = .ok (.enter gf args) w) {encs : Nat → Array Value} {C : World → Prop} {N : Nat} (hseq : Ever P gf lb encs C N) (hps : ∀ k, (encs k).size = ps.size)
    (I : Nat → World → Prop) (X : Code → World → Prop) (hN : ∀ k W, I k W → k < N ∧ C W) (hI : OwnFrom w.heap.size I) (hX : OwnFrom w.heap.size X) (h0 : I 0 w)
    (A : Nat → Act → World → Prop) (hA : ∀ a', OwnFrom w.heap.size (fun k W => A k a' W))
    (hassign : ∀ (l k : Nat) (W : World) (K : Act → World → Prop), I k W → (∀ a' W', KeepsFrom w.heap.size W W' → A k a' W' → K a' W') →
      assign.wpIn (rnd l) 0 P (Exit.then K (fun _ _ _ => False)) { tmps := (ps.zip (encs k)).foldl (fun t (p, v) => t.setIfInBounds p v) a.tmps, defers := [] } W)
    (hbody : ∀ (l k : Nat) (a' : Act) (W : World), A k a' W → body.wpIn (rnd l) 0 P (roundEnd w.heap.size I X k W) a' W)
    (hstop : ∀ (D : Nat) (c : Code) (W : World), w.heap.size ≤ D → X c W → W.heap[D]? = some (.deferred (some [])) → c.wp P Q { a with defers := { target := .collected D, args := #[] } :: a.defers } W) :
    (Code.rangeFunc g ps assign body).wp P Q a w := by
  refine wpIn_wide.1 (wpIn_rangeFunc (n := 0) (F := Fence.wide) ?_)
  intro fn hfn
  obtain ⟨B, hB⟩ : ∃ B, w.heap.size = B := ⟨_, rfl⟩
  -- the record of the loop, by its state and what waits
  obtain ⟨R, hR⟩ : ∃ R : LoopState → Option Code → Obj, R = fun s j => .loop { state := s, pending := j, fn := fn, tmps := a.tmps, params := ps, assign := assign, body := body, defers := B } := ⟨_, rfl⟩
  have hRc : ∀ s j, (R s j).isCells = false := fun s j => by rw [hR]; rfl
  obtain ⟨W1, hW1⟩ : ∃ W1, (w.alloc (.deferred (some []))).alloc (R .ready none) = W1 := ⟨_, rfl⟩
  have hloop : W1.heap[B + 1]? = some (R .ready none) := by
    have := World.alloc_heap_new (w.alloc (.deferred (some []))) (R .ready none)
    rwa [World.size_alloc, hB, hW1] at this
  have hdef : W1.heap[B]? = some (.deferred (some [])) := by
    rw [← hW1]
    exact (Below.heap_alloc _ _ _ (by simp [hB])).trans (hB ▸ World.alloc_heap_new w _)
  have hstart : I 0 W1 := by rw [← hW1]; exact hI.alloc _ (hI.alloc _ h0)
  rw [hB] at hI hX hA hassign hbody hstop
  refine ⟨B + 1, [{ target := .collected B, args := #[] }], W1, { target := .fn (.func gf) lb, args := #[.func (.yield (B + 1)) #[] #[]] }, W1, gf, #[.func (.yield (B + 1)) #[] #[]] ++ lb, W1, ?_, ?_, fun _ _ => trivial, ?_, (fun e => by cases e), ?_⟩
  · have := run_enterLoop_outer (P := P) (w := w) fn a.tmps ps assign body
    rw [hB] at this
    rw [← hW1, hR]
    exact this
  · simp only [resolve, hg]
    simp [go_sem]
  · simp [invoke, go_sem, eg]
  -- the iterator, by its contract: what the caller keeps, and the two blocks of the loop beside it
  have lasts : ∀ {s : LoopState} {j : Option Code} {U U' : World}, U.grownBy U' none → U.heap[B + 1]? = some (R s j) ∧ U.heap[B]? = some (.deferred (some [])) → U'.heap[B + 1]? = some (R s j) ∧ U'.heap[B]? = some (.deferred (some [])) := fun hgr h =>
    ⟨(hgr.block _ (Array.getElem?_eq_some_iff.1 h.1).1 (by simp)).trans h.1, (hgr.block _ (Array.getElem?_eq_some_iff.1 h.2).1 (by simp)).trans h.2⟩
  refine (hseq (B + 1) (fun k U => I k U ∧ U.heap[B + 1]? = some (R .ready none) ∧ U.heap[B]? = some (.deferred (some [])))
    (fun U => ∃ c, X c U ∧ U.heap[B + 1]? = some (R .done (some c)) ∧ U.heap[B]? = some (.deferred (some []))) W1 (fun k U h => hN k U h.1)
    (fun k U U' h hgr => ⟨hI k U U' none h.1 hgr (fun r e => by cases e), lasts hgr h.2⟩) ?_ ⟨hstart, hloop, hdef⟩).mono ?_
  · rintro k U ⟨hi, hl, hd⟩
    have hlR := hl
    rw [hR] at hlR
    have hy := run_yield (P := P) (args := encs k) hlR (hps k)
    refine ⟨fn, _, assign, body, hy, roundIn_of_wpIn (F := Fence.wide) hfn (hassign (B + 1) k U _ hi ?_)⟩
    intro a' U1 hkeep hax
    have hl1 := hkeep.same _ _ (by omega) hl (hRc _ _)
    have hd1 := hkeep.same _ _ (Nat.le_refl _) hd rfl
    have hl1R := hl1
    rw [hR] at hl1R
    refine ⟨_, run_beginRound hl1R rfl, ?_⟩
    obtain ⟨U2, hU2⟩ : ∃ U2, U1.putObj (B + 1) (R .busy none) = U2 := ⟨_, rfl⟩
    have hax2 : A k a' U2 := by rw [← hU2]; exact (hA a').putObj (s := k) _ hax (by omega) hl1 (hRc _ _)
    have hl2 : U2.heap[B + 1]? = some (R .busy none) := by rw [← hU2]; exact World.putObj_heap_same (Array.getElem?_eq_some_iff.1 hl1).1
    have hd2 : U2.heap[B]? = some (.deferred (some [])) := by rw [← hU2]; exact (World.putObj_heap_other (by omega)).trans hd1
    have hsame : U1.putObj (B + 1) (.loop { state := .busy, pending := none, fn := fn, tmps := a.tmps, params := ps, assign := assign, body := body, defers := B }) = U2 := by rw [← hU2, hR]
    show body.wpIn (rnd (B + 1)) 0 P _ a' (U1.putObj (B + 1) _)
    rw [hsame]
    refine wpIn_mono (hbody (B + 1) k a' U2 hax2) ?_
    have close : ∀ (j : Option Code) (U3 : World), KeepsFrom B U2 U3 → (Instr.endRound (B + 1) j).run P U3 = .ok (.bool j.isNone) (U3.putObj (B + 1) (R (if j.isNone then .ready else .done) j)) ∧ U3.heap[B + 1]? = some (R .busy none) ∧
        (U3.putObj (B + 1) (R (if j.isNone then .ready else .done) j)).heap[B + 1]? = some (R (if j.isNone then .ready else .done) j) ∧ (U3.putObj (B + 1) (R (if j.isNone then .ready else .done) j)).heap[B]? = some (.deferred (some [])) := fun j U3 hk3 => by
      have hl3 := hk3.same _ _ (by omega) hl2 (hRc _ _)
      have hd3 := hk3.same _ _ (Nat.le_refl _) hd2 rfl
      have hl3R := hl3
      rw [hR] at hl3R
      have he := run_endRound (P := P) j hl3R
      refine ⟨by rw [he, hR], hl3, World.putObj_heap_same (Array.getElem?_eq_some_iff.1 hl3).1, (World.putObj_heap_other (by omega)).trans hd3⟩
    rintro e a3 U3 hp
    cases e with
    | normal =>
      obtain ⟨hr, hl3, hl4, hd4⟩ := close none U3 hp.1
      exact ⟨_, _, hr, .inl ⟨rfl, hI.putObj _ hp.2 (by omega) hl3 (hRc _ _), hl4, hd4⟩⟩
    | ret =>
      obtain ⟨hr, hl3, hl4, hd4⟩ := close (some .ret) U3 hp.1
      exact ⟨_, _, hr, .inr ⟨rfl, .ret, hX.putObj _ hp.2 (by omega) hl3 (hRc _ _), hl4, hd4⟩⟩
    | exit id =>
      obtain ⟨hr, hl3, hl4, hd4⟩ := close (some (.exit id)) U3 hp.1
      exact ⟨_, _, hr, .inr ⟨rfl, .exit id, hX.putObj _ hp.2 (by omega) hl3 (hRc _ _), hl4, hd4⟩⟩
    | goto t =>
      obtain ⟨hr, hl3, hl4, hd4⟩ := close (some (.goto t)) U3 hp.1
      exact ⟨_, _, hr, .inr ⟨rfl, .goto t, hX.putObj _ hp.2 (by omega) hl3 (hRc _ _), hl4, hd4⟩⟩
    | panic ch => exact hp.elim
    | outgrown => exact hp.elim
  · rintro e U ⟨⟨v, rfl⟩, c, hx, hl, hd⟩
    have hlR := hl
    rw [hR] at hlR
    refine ⟨some c, _, run_endLoop hlR (by simp), wpIn_wide.2 (hstop B c _ (Nat.le_refl _) (hX.putObj _ hx (by omega) hl (hRc _ _)) ((World.putObj_heap_other (by omega)).trans hd))⟩
end
theorem Row.own {B : Nat} {W W' : World} {g : Nat} {t : TypeId} {cs : List Value} {row : Option Nat} (h : Row W g t cs) (hg : W.grownBy W' row) (hr : ∀ r, row = some r → B ≤ r ∧ ∃ o : Obj, W.heap[r]? = some o ∧ o.isCells = false) : Row W' g t cs :=
  h.grown hg (fun e => by
    obtain ⟨_, o, ho, hc⟩ := hr g e.symm
    rw [show W.heap[g]? = _ from h] at ho
    cases ho
    cases hc)
theorem grown_ownFrom {w W W' : World} {B : Nat} {row : Option Nat} (h : w.grownBy W none) (hB : w.heap.size ≤ B) (hg : W.grownBy W' row) (hr : ∀ r, row = some r → B ≤ r ∧ ∃ o : Obj, W.heap[r]? = some o ∧ o.isCells = false) : w.grownBy W' none :=
  grown_new h hg (fun b e => Nat.le_trans hB (hr b e).1)

/-- A block that is turned by nobody's book-keeping. -/
theorem held_own {B : Nat} {W W' : World} {D : Nat} {o : Obj} {row : Option Nat} (h : W.heap[D]? = some o) (hD : D < B) (hg : W.grownBy W' row) (hr : ∀ r, row = some r → B ≤ r ∧ ∃ o : Obj, W.heap[r]? = some o ∧ o.isCells = false) : W'.heap[D]? = some o :=
  (hg.block D (Array.getElem?_eq_some_iff.1 h).1 (fun e => by have := (hr D e.symm).1; omega)).trans h
theorem held_grown {W W' : World} {D : Nat} {o : Obj} (h : W.heap[D]? = some o) (hg : W.grownBy W' none) : W'.heap[D]? = some o :=
  (hg.block D (Array.getElem?_eq_some_iff.1 h).1 (by simp)).trans h
end Go.Proofs.Ytnbeakpmglefmaa
