/-
  Regions that draw their order: the operations behind the first n may be bound by those among themselves (of no layer).
-/
import Derived.Test.YtibofgokdjbomaaMMem
namespace Go.Proofs.Ytibofgokdjbomaa
set_option maxRecDepth 1000000
open Go.RowKit

/-- As fit3; what binds is sought among all operations. -/
def fit4 (ops : Array Oper) (n : Nat) : Bool :=
  fitHead ops n &&
  ((List.range ops.size).all fun i => decide (i < n) || match ops[i]? with
      | some o => (List.range n).all fun j => (marks ops ops.size (depsOn o)).contains j
      | none => true)
theorem fit4_tail {ops : Array Oper} {n : Nat} (h : fit4 ops n = true) : TailLate ops n := by
  intro listed i o hc hin hi hd j hj
  simp only [fit4, List.all_eq_true, List.mem_range, Bool.and_eq_true, Bool.or_eq_true, decide_eq_true_eq] at h
  rcases h.2 i (lt_of_some hi) with h | h
  · omega
  · rw [hi] at h
    have := List.all_eq_true.1 h j (List.mem_range.2 hj)
    exact marks_done hc ops.size _ hd j (by simpa using this)
theorem wp_region_walk4 {P : Program} {Q : Exit → Act → World → Prop} {w0 : World} {a0 : Act} {id : Nat} {l : List Oper} (n : Nat) (eff : List (Nat × Nat)) (hdis : ∀ i j g, rowAt eff i = some g → rowAt eff j = some g → i = j) (hm : P.follows .mixedOrders = true) (hfit : fit4 l.toArray n = true) (hslots : (l.all fun o => match o.dst with | some d => decide (d < a0.tmps.size) | none => true) = true)
    (h : Walk P l.toArray Q n eff w0.drew a0 (l.drop n) 0 (l.take n) []) : (Code.region id l.toArray true).wp P Q a0 w0 :=
  wp_region_tail n eff hdis hm (by simp only [fit4, Bool.and_eq_true] at hfit; exact hfit.1) (fit4_tail hfit) hslots h
end Go.Proofs.Ytibofgokdjbomaa
