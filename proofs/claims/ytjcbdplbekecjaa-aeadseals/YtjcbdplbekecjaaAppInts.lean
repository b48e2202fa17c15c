/-
  Rows of numbers, and append onto a row of the call's own, over this program.
-/
import Derived.Test.YtjcbdplbekecjaaBase
import Derived.Test.YtjcbdplbekecjaaChecked
namespace Go.Proofs.Ytjcbdplbekecjaa
open Go.RowKit

def intV (n : Nat) : Value := .int .i64 (n : Int)
def intsV (l : List Nat) : List Value := l.map intV
theorem intsV_len (l : List Nat) : (intsV l).length = l.length := by simp [intsV]
theorem intsV_app (a b : List Nat) : intsV (a ++ b) = intsV a ++ intsV b := by simp [intsV]
theorem intsV_one (l : List Nat) : ∀ x ∈ intsV l, x.oneCell' = true := by
  intro x hx
  obtain ⟨c, _, rfl⟩ := List.mem_map.1 hx
  rfl
theorem intsV_at (l : List Nat) (k : Nat) (h : k < l.length) : (intsV l)[k]? = some (.int .i64 ((l.getD k 0 : Nat) : Int)) := by
  simp [intsV, intV, List.getElem?_eq_getElem h]
theorem intsV_set (l : List Nat) (k x : Nat) : (intsV l).set k (.int .i64 (x : Int)) = intsV (l.set k x) := by simp [intsV, intV, List.map_set]
/-- The cell of a number. -/
theorem Rd.num {w : World} {A : Option Addr} {n c : Nat} {l : List Nat} (h : Rd w (.slice A n c) (intsV l)) (k : Nat) (hk : k < l.length) : ∃ ad, A = some ad ∧ w.cell? (ad.add k) = some (.int .i64 ((l.getD k 0 : Nat) : Int)) := by
  obtain ⟨ad, rfl, hc⟩ := h.cells (by intro e; have := congrArg List.length e; rw [intsV_len] at this; simp only [List.length_nil] at this; omega)
  exact ⟨ad, rfl, hc k _ (intsV_at l k hk)⟩

theorem infoInt : ∃ i, Try.prog.info? 3 = some i ∧ i.zero = some (.int .i64 0) ∧ i.size = 1 ∧ i.bytes = 8 := by
  have h : (Try.prog.info? 3).map (fun i => (i.zero, i.size, i.bytes)) = some (some (.int .i64 0), 1, 8) := by kernel_rfl
  obtain ⟨i, hi, he⟩ := Option.map_eq_some_iff.1 h
  simp only [Prod.mk.injEq] at he
  exact ⟨i, hi, he.1, he.2.1, he.2.2⟩

theorem wpList_append_ints (w : World) {ops : Array Oper} {rest : List Oper} {o : Oper} {a : Act} {Q : Exit → Act → World → Prop} (hgd : o.guard = none) (s x : Operand)
    (ho : o.op = .call { callee := .builtin .append, args := #[s, x], argTypes := #[56, 56] })
    (base : Nat) (v : Value) (n : Nat) (xs : List Value) (hs : a.eval s = v) (hown : w.ownsRow base 3 1 v n xs)
    (u : Value) (l : List Nat) (hx : a.eval x = u) (hr : Rd w u (intsV l)) (hlen : n + l.length ≤ 1000000) (hbase : base ≤ w.heap.size)
    (h : ∀ v' w', w'.ownsRow base 3 1 v' (n + l.length) (xs ++ intsV l) → w.grownBy w' v.ownBlock → (v'.ownBlock = v.ownBlock ∨ v'.ownBlock = some w.heap.size) → wpList Try.prog ops Q rest (a.put o.dst v') w') : wpList Try.prog ops Q (o :: rest) a w := by
  obtain ⟨i, hi, hz, hs1, hb⟩ := infoInt
  refine wpList_append_rd w hgd s x 56 ho base 3 i (.int .i64 0) 8 Try.underlying56 hi hz hs1 hb rfl v n xs hs hown u (intsV l) hx hr (intsV_one _) ?_ ?_ hbase ?_
  · rw [intsV_len]; omega
  · rw [intsV_len]; omega
  · rw [intsV_len]; exact h

/-- The same at a step of a region that draws its order (for 'go_region_law'). -/
theorem step_append_ints (w : World) {ops : Array Oper} {o : Oper} {a : Act} {K : Act → World → Prop} {Q : Exit → Act → World → Prop} {E : Prop} (hgd : o.guard = none) (s x : Operand)
    (ho : o.op = .call { callee := .builtin .append, args := #[s, x], argTypes := #[56, 56] })
    (base : Nat) (v : Value) (n : Nat) (xs : List Value) (hs : a.eval s = v) (hown : w.ownsRow base 3 1 v n xs)
    (u : Value) (l : List Nat) (hx : a.eval x = u) (hr : Rd w u (intsV l)) (hlen : n + l.length ≤ 1000000) (hbase : base ≤ w.heap.size)
    (h : ∀ v' w', Hid (w'.ownsRow base 3 1 v' (n + l.length) (xs ++ intsV l)) → Hid (w.grownBy w' v.ownBlock) → K (a.put o.dst v') w') :
    if Region.wanted o (yielded ops a.tmps) = true then Oper.wp Try.prog o a w K Q else E := by
  have hw : Region.wanted o (yielded ops a.tmps) = true := by simp [Region.wanted, hgd]
  rw [if_pos hw]
  obtain ⟨i, hi, hz, hs1, hb⟩ := infoInt
  obtain ⟨v', w', hrun, h2, h3, h4⟩ := run_append_rd (P := Try.prog) w base 56 o.type 3 i (.int .i64 0) 8 Try.underlying56 hi hz hs1 hb rfl v n xs hown u (intsV l) hr (intsV_one _) (by rw [intsV_len]; omega) (by rw [intsV_len]; omega) hbase
  rw [intsV_len] at h2
  unfold Oper.wp execOp
  simp only [ho, resolve, invoke, builtin, Sem.run_bind, Sem.run_pure, Result.andThen_ok, List.map_toArray, List.map_cons, List.map_nil, hs, hx, hrun]
  exact h v' w' h2 h3

/-- What a call answers that makes new numbers and turns nothing old. -/
def OutI (w : World) (l : List Nat) (e : Ending) (w' : World) : Prop :=
  ∃ v, e = .returned v ∧ Rd w' v (intsV l) ∧ w.grownBy w' none
end Go.Proofs.Ytjcbdplbekecjaa
