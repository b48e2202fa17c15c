/-
  A range over a function that ends (of no program): so many rounds, or fewer, where a round says no.
-/
import Derived.Test.YtnbeakpmglefmaaRnd
namespace Go.Proofs.Ytnbeakpmglefmaa
open Go.RowKit

/-- The contract of an iterator of N rounds: as long as the rounds say yes J holds by their count; J lasts while memory grows, and keeps what the iterator reads (C); where one says no it ends at once. -/
def Upto (P : Program) (gf : Nat) (lb : Array Value) (encs : Nat → Array Value) (C : World → Prop) (N : Nat) : Prop :=
  ∀ (l : Nat) (J : Nat → World → Prop) (Jx : World → Prop) (W : World), (∀ k W, J k W → C W) → (∀ k W W', J k W → W.grownBy W' none → J k W') → (∀ W W', Jx W → W.grownBy W' none → Jx W') →
    (∀ k W1, k < N → J k W1 → YieldAt Fence.wide 0 P l (encs k) W1 fun e W' => (e = .returned (.bool true) ∧ J (k + 1) W') ∨ (e = .returned (.bool false) ∧ Jx W')) →
    J 0 W → CallsIn Fence.wide 0 P gf (#[.func (.yield l) #[] #[]] ++ lb) W fun e W' => (∃ v, e = .returned v) ∧ (J N W' ∨ Jx W')

section
variable {P : Program}
/-- The law: what the rounds leave, and how they leave the loop. -/
theorem wp_range_upto {g : Operand} {ps : Array Tmp} {assign body : Code} {Q : Exit → Act → World → Prop} {a : Act} {w : World} {gf : Nat} {lb : Array Value}
    (hg : a.eval g = .func (.func gf) #[] lb) (eg : ∀ args w, (callFunc gf args).run P w = .ok (.enter gf args) w) {encs : Nat → Array Value} {C : World → Prop} {N : Nat} (hseq : Upto P gf lb encs C N) (hps : ∀ k, (encs k).size = ps.size)
    (I : Nat → World → Prop) (X : Code → World → Prop) (hC : ∀ k W, I k W → C W) (hI : OwnFrom w.heap.size I) (hX : OwnFrom w.heap.size X) (h0 : I 0 w)
    (A : Nat → Act → World → Prop) (hA : ∀ a', OwnFrom w.heap.size (fun k W => A k a' W))
    (hassign : ∀ (l k : Nat) (W : World) (K : Act → World → Prop), k < N → I k W → (∀ a' W', KeepsFrom w.heap.size W W' → A k a' W' → K a' W') →
      assign.wpIn (rnd l) 0 P (Exit.then K (fun _ _ _ => False)) { tmps := (ps.zip (encs k)).foldl (fun t (p, v) => t.setIfInBounds p v) a.tmps, defers := [] } W)
    (hbody : ∀ (l k : Nat) (a' : Act) (W : World), k < N → A k a' W → body.wpIn (rnd l) 0 P (roundEnd w.heap.size I X k W) a' W)
    (hdone : ∀ (D : Nat) (W : World), w.heap.size ≤ D → I N W → W.heap[D]? = some (.deferred (some [])) → Q .normal { a with defers := { target := .collected D, args := #[] } :: a.defers } W)
    (hstop : ∀ (D : Nat) (c : Code) (W : World), w.heap.size ≤ D → X c W → W.heap[D]? = some (.deferred (some [])) → c.wp P Q { a with defers := { target := .collected D, args := #[] } :: a.defers } W) :
    (Code.rangeFunc g ps assign body).wp P Q a w := by
  refine wpIn_wide.1 (wpIn_rangeFunc (n := 0) (F := Fence.wide) ?_)
  intro fn hfn
  obtain ⟨B, hB⟩ : ∃ B, w.heap.size = B := ⟨_, rfl⟩
  -- the record of the loop, by its state and what waits
  obtain ⟨R, hR⟩ : ∃ R : LoopState → Option Code → Obj, R = fun s j => .loop { state := s, pending := j, fn := fn, tmps := a.tmps, params := ps, assign := assign, body := body, defers := B } := ⟨_, rfl⟩
  have hRc : ∀ s j, (R s j).isCells = false := fun s j => by rw [hR]; rfl
  obtain ⟨W1, hW1⟩ : ∃ W1, (w.alloc (.deferred (some []))).alloc (R .ready none) = W1 := ⟨_, rfl⟩
  have hloop : W1.heap[B + 1]? = some (R .ready none) := by
    have := World.alloc_heap_new (w.alloc (.deferred (some []))) (R .ready none)
    rwa [World.size_alloc, hB, hW1] at this
  have hdef : W1.heap[B]? = some (.deferred (some [])) := by
    rw [← hW1]
    exact (Below.heap_alloc _ _ _ (by simp [hB])).trans (hB ▸ World.alloc_heap_new w _)
  have hstart : I 0 W1 := by rw [← hW1]; exact hI.alloc _ (hI.alloc _ h0)
  rw [hB] at hI hX hA hassign hbody hdone hstop
  refine ⟨B + 1, [{ target := .collected B, args := #[] }], W1, { target := .fn (.func gf) lb, args := #[.func (.yield (B + 1)) #[] #[]] }, W1, gf, #[.func (.yield (B + 1)) #[] #[]] ++ lb, W1, ?_, ?_, fun _ _ => trivial, ?_, (fun e => by cases e), ?_⟩
  · have := run_enterLoop_outer (P := P) (w := w) fn a.tmps ps assign body
    rw [hB] at this
    rw [← hW1, hR]
    exact this
  · simp only [resolve, hg]
    simp [go_sem]
  · simp [invoke, go_sem, eg]
  -- the iterator, by its contract: what the caller keeps, and the two blocks of the loop beside it
  have lasts : ∀ {s : LoopState} {j : Option Code} {U U' : World}, U.grownBy U' none → U.heap[B + 1]? = some (R s j) ∧ U.heap[B]? = some (.deferred (some [])) → U'.heap[B + 1]? = some (R s j) ∧ U'.heap[B]? = some (.deferred (some [])) := fun hgr h =>
    ⟨(hgr.block _ (Array.getElem?_eq_some_iff.1 h.1).1 (by simp)).trans h.1, (hgr.block _ (Array.getElem?_eq_some_iff.1 h.2).1 (by simp)).trans h.2⟩
  refine (hseq (B + 1) (fun k U => I k U ∧ U.heap[B + 1]? = some (R .ready none) ∧ U.heap[B]? = some (.deferred (some [])))
    (fun U => ∃ c, X c U ∧ U.heap[B + 1]? = some (R .done (some c)) ∧ U.heap[B]? = some (.deferred (some []))) W1 (fun k U h => hC k U h.1)
    (fun k U U' h hgr => ⟨hI k U U' none h.1 hgr (fun r e => by cases e), lasts hgr h.2⟩) (fun U U' h hgr => ?_) ?_ ⟨hstart, hloop, hdef⟩).mono ?_
  · obtain ⟨c, hx, h2⟩ := h
    exact ⟨c, hX c U U' none hx hgr (fun r e => by cases e), lasts hgr h2⟩
  · rintro k U hkN ⟨hi, hl, hd⟩
    have hlR := hl
    rw [hR] at hlR
    have hy := run_yield (P := P) (args := encs k) hlR (hps k)
    refine ⟨fn, _, assign, body, hy, roundIn_of_wpIn (F := Fence.wide) hfn (hassign (B + 1) k U _ hkN hi ?_)⟩
    intro a' U1 hkeep hax
    have hl1 := hkeep.same _ _ (by omega) hl (hRc _ _)
    have hd1 := hkeep.same _ _ (Nat.le_refl _) hd rfl
    have hl1R := hl1
    rw [hR] at hl1R
    refine ⟨_, run_beginRound hl1R rfl, ?_⟩
    obtain ⟨U2, hU2⟩ : ∃ U2, U1.putObj (B + 1) (R .busy none) = U2 := ⟨_, rfl⟩
    have hax2 : A k a' U2 := by rw [← hU2]; exact (hA a').putObj (s := k) _ hax (by omega) hl1 (hRc _ _)
    have hl2 : U2.heap[B + 1]? = some (R .busy none) := by rw [← hU2]; exact World.putObj_heap_same (Array.getElem?_eq_some_iff.1 hl1).1
    have hd2 : U2.heap[B]? = some (.deferred (some [])) := by rw [← hU2]; exact (World.putObj_heap_other (by omega)).trans hd1
    have hsame : U1.putObj (B + 1) (.loop { state := .busy, pending := none, fn := fn, tmps := a.tmps, params := ps, assign := assign, body := body, defers := B }) = U2 := by rw [← hU2, hR]
    show body.wpIn (rnd (B + 1)) 0 P _ a' (U1.putObj (B + 1) _)
    rw [hsame]
    refine wpIn_mono (hbody (B + 1) k a' U2 hkN hax2) ?_
    have close : ∀ (j : Option Code) (U3 : World), KeepsFrom B U2 U3 → (Instr.endRound (B + 1) j).run P U3 = .ok (.bool j.isNone) (U3.putObj (B + 1) (R (if j.isNone then .ready else .done) j)) ∧ U3.heap[B + 1]? = some (R .busy none) ∧
        (U3.putObj (B + 1) (R (if j.isNone then .ready else .done) j)).heap[B + 1]? = some (R (if j.isNone then .ready else .done) j) ∧ (U3.putObj (B + 1) (R (if j.isNone then .ready else .done) j)).heap[B]? = some (.deferred (some [])) := fun j U3 hk3 => by
      have hl3 := hk3.same _ _ (by omega) hl2 (hRc _ _)
      have hd3 := hk3.same _ _ (Nat.le_refl _) hd2 rfl
      have hl3R := hl3
      rw [hR] at hl3R
      have he := run_endRound (P := P) j hl3R
      refine ⟨by rw [he, hR], hl3, World.putObj_heap_same (Array.getElem?_eq_some_iff.1 hl3).1, (World.putObj_heap_other (by omega)).trans hd3⟩
    rintro e a3 U3 hp
    cases e with
    | normal =>
      obtain ⟨hr, hl3, hl4, hd4⟩ := close none U3 hp.1
      exact ⟨_, _, hr, .inl ⟨rfl, hI.putObj _ hp.2 (by omega) hl3 (hRc _ _), hl4, hd4⟩⟩
    | ret =>
      obtain ⟨hr, hl3, hl4, hd4⟩ := close (some .ret) U3 hp.1
      exact ⟨_, _, hr, .inr ⟨rfl, .ret, hX.putObj _ hp.2 (by omega) hl3 (hRc _ _), hl4, hd4⟩⟩
    | exit id =>
      obtain ⟨hr, hl3, hl4, hd4⟩ := close (some (.exit id)) U3 hp.1
      exact ⟨_, _, hr, .inr ⟨rfl, .exit id, hX.putObj _ hp.2 (by omega) hl3 (hRc _ _), hl4, hd4⟩⟩
    | goto t =>
      obtain ⟨hr, hl3, hl4, hd4⟩ := close (some (.goto t)) U3 hp.1
      exact ⟨_, _, hr, .inr ⟨rfl, .goto t, hX.putObj _ hp.2 (by omega) hl3 (hRc _ _), hl4, hd4⟩⟩
    | panic ch => exact hp.elim
    | outgrown => exact hp.elim
  · rintro e U ⟨⟨v, rfl⟩, ⟨hi, hl, hd⟩ | ⟨c, hx, hl, hd⟩⟩
    · have hlR := hl
      rw [hR] at hlR
      exact ⟨none, _, run_endLoop hlR (by simp), hdone B _ (Nat.le_refl _) (hI.putObj _ hi (by omega) hl (hRc _ _)) ((World.putObj_heap_other (by omega)).trans hd)⟩
    · have hlR := hl
      rw [hR] at hlR
      exact ⟨some c, _, run_endLoop hlR (by simp), wpIn_wide.2 (hstop B c _ (Nat.le_refl _) (hX.putObj _ hx (by omega) hl (hRc _ _)) ((World.putObj_heap_other (by omega)).trans hd))⟩
end
/-- The law, of an iterator that has no round. -/
theorem wp_range_none {P : Program} {g : Operand} {ps : Array Tmp} {assign body : Code} {Q : Exit → Act → World → Prop} {a : Act} {w : World} {gf : Nat} {lb : Array Value}
    (hg : a.eval g = .func (.func gf) #[] lb) (eg : ∀ args w, (callFunc gf args).run P w = .ok (.enter gf args) w) {encs : Nat → Array Value} {C : World → Prop} (hseq : Upto P gf lb encs C 0) (hps : ∀ k, (encs k).size = ps.size)
    (I : World → Prop) (hC : ∀ W, I W → C W) (hI : OwnFrom w.heap.size (fun (_ : Nat) W => I W)) (h0 : I w)
    (hdone : ∀ (D : Nat) (W : World), w.heap.size ≤ D → I W → W.heap[D]? = some (.deferred (some [])) → Q .normal { a with defers := { target := .collected D, args := #[] } :: a.defers } W) :
    (Code.rangeFunc g ps assign body).wp P Q a w :=
  wp_range_upto hg eg hseq hps (fun _ W => I W) (fun _ _ => False) (fun _ W h => hC W h) hI (fun _ _ _ _ h _ _ => h.elim) h0 (fun _ _ _ => False) (fun _ _ _ _ _ h _ _ => h.elim)
    (fun _ _ _ _ h _ _ => absurd h (Nat.not_lt_zero _)) (fun _ _ _ _ h _ => absurd h (Nat.not_lt_zero _)) hdone (fun _ _ _ _ h _ => h.elim)
/-- The law, where the loop's variables lie in slots: S is what the frame's slots are behind the assignment. -/
theorem wp_range_upto1 {P : Program} {g : Operand} {ps : Array Tmp} {assign body : Code} {Q : Exit → Act → World → Prop} {a : Act} {w : World} {gf : Nat} {lb : Array Value}
    (hg : a.eval g = .func (.func gf) #[] lb) (eg : ∀ args w, (callFunc gf args).run P w = .ok (.enter gf args) w) {encs : Nat → Array Value} {C : World → Prop} {N : Nat} (hseq : Upto P gf lb encs C N) (hps : ∀ k, (encs k).size = ps.size)
    (I : Nat → World → Prop) (X : Code → World → Prop) (hC : ∀ k W, I k W → C W) (hI : OwnFrom w.heap.size I) (hX : OwnFrom w.heap.size X) (h0 : I 0 w) (S : Nat → Array Value → Array Value)
    (hassign : ∀ (l k : Nat) (W : World) (K : Act → World → Prop), k < N → I k W → K { tmps := S k a.tmps, defers := [] } W →
      assign.wpIn (rnd l) 0 P (Exit.then K (fun _ _ _ => False)) { tmps := (ps.zip (encs k)).foldl (fun t (p, v) => t.setIfInBounds p v) a.tmps, defers := [] } W)
    (hbody : ∀ (l k : Nat) (W : World), k < N → I k W → body.wpIn (rnd l) 0 P (roundEnd w.heap.size I X k W) { tmps := S k a.tmps, defers := [] } W)
    (hdone : ∀ (D : Nat) (W : World), w.heap.size ≤ D → I N W → W.heap[D]? = some (.deferred (some [])) → Q .normal { a with defers := { target := .collected D, args := #[] } :: a.defers } W)
    (hstop : ∀ (D : Nat) (c : Code) (W : World), w.heap.size ≤ D → X c W → W.heap[D]? = some (.deferred (some [])) → c.wp P Q { a with defers := { target := .collected D, args := #[] } :: a.defers } W) :
    (Code.rangeFunc g ps assign body).wp P Q a w :=
  wp_range_upto hg eg hseq hps I X hC hI hX h0 (fun k a' W => I k W ∧ a' = { tmps := S k a.tmps, defers := [] }) (fun _ k W W' row h hg hr => ⟨hI k W W' row h.1 hg hr, h.2⟩)
    (fun l k W K hk hi hK => hassign l k W K hk hi (hK _ _ (KeepsFrom.of_grownBy (grown_refl W none) (fun _ e => by cases e)) ⟨hi, rfl⟩))
    (fun l k a' W hk h => by rw [h.2]; exact hbody l k W hk h.1) hdone hstop
/-- The law, where the loop is left by a break, or ends by itself, with one and the same behind it. -/
theorem wp_range_upto2 {P : Program} {g : Operand} {ps : Array Tmp} {assign body : Code} {Q : Exit → Act → World → Prop} {a : Act} {w : World} {gf : Nat} {lb : Array Value}
    (hg : a.eval g = .func (.func gf) #[] lb) (eg : ∀ args w, (callFunc gf args).run P w = .ok (.enter gf args) w) {encs : Nat → Array Value} {C : World → Prop} {N : Nat} (hseq : Upto P gf lb encs C N) (hps : ∀ k, (encs k).size = ps.size)
    (id : Nat) (hq : ∀ a W, Q .normal a W → Q (.exit id) a W) (I : Nat → World → Prop) (Z : World → Prop) (hC : ∀ k W, I k W → C W) (hI : OwnFrom w.heap.size I) (hZ : OwnFrom w.heap.size (fun (_ : Nat) W => Z W)) (h0 : I 0 w) (hN : ∀ W, I N W → Z W) (S : Nat → Array Value → Array Value)
    (hassign : ∀ (l k : Nat) (W : World) (K : Act → World → Prop), k < N → I k W → K { tmps := S k a.tmps, defers := [] } W →
      assign.wpIn (rnd l) 0 P (Exit.then K (fun _ _ _ => False)) { tmps := (ps.zip (encs k)).foldl (fun t (p, v) => t.setIfInBounds p v) a.tmps, defers := [] } W)
    (hbody : ∀ (l k : Nat) (W : World), k < N → I k W → body.wpIn (rnd l) 0 P (roundEnd w.heap.size I (fun c W => c = .exit id ∧ Z W) k W) { tmps := S k a.tmps, defers := [] } W)
    (hmeet : ∀ (D : Nat) (W : World), w.heap.size ≤ D → Z W → W.heap[D]? = some (.deferred (some [])) → Q .normal { a with defers := { target := .collected D, args := #[] } :: a.defers } W) :
    (Code.rangeFunc g ps assign body).wp P Q a w :=
  wp_range_upto1 hg eg hseq hps I (fun c W => c = .exit id ∧ Z W) hC hI (fun _ W W' row h hg hr => ⟨h.1, hZ 0 W W' row h.2 hg hr⟩) h0 S hassign hbody
    (fun D W hD h hd => hmeet D W hD (hN W h) hd)
    (fun D c W hD h hd => by
      obtain ⟨rfl, hz⟩ := h
      exact wp_exit (hq _ _ (hmeet D W hD hz hd)))
end Go.Proofs.Ytnbeakpmglefmaa
