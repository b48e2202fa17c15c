/-
  Layer 13's entries (of no program but for their cells): what they are, and why they may not be.
-/
import Derived.Test.YtiakkfcjdmecdaaDoorMPtL
namespace Go.Proofs.YtiakkfcjdmecdaaDoor
set_option maxRecDepth 1000000
open Go.RowKit

structure En where
  path : List UInt8
  kind : Int
  mode : Int
  time : Int
  to : List UInt8
  beg : Int
  size : Int
instance : Inhabited En := ⟨⟨[], 0, 0, 0, [], 0, 0⟩⟩
theorem En.ext' {a b : En} (h1 : a.path = b.path) (h2 : a.kind = b.kind) (h3 : a.mode = b.mode) (h4 : a.time = b.time) (h5 : a.to = b.to) (h6 : a.beg = b.beg) (h7 : a.size = b.size) : a = b := by
  cases a; cases b; simp_all
def I64 (a : Int) : Prop := -9223372036854775808 ≤ a ∧ a ≤ 9223372036854775807
structure FitE (e : En) : Prop where
  kind : I64 e.kind
  mode : I64 e.mode
  time : I64 e.time
  beg : I64 e.beg
  size : I64 e.size
def enC (e : En) : List Value := [.string (bts e.path), .int .i64 e.kind, .int .i64 e.mode, .int .i64 e.time, .string (bts e.to), .int .i64 e.beg, .int .i64 e.size]
/-- The slice value v reads, in world w, as these entries. -/
def RdE (w : World) (v : Value) (l : List En) : Prop :=
  ∃ A c, v = .slice A l.length c ∧ l.length ≤ c ∧ c ≤ maxLen ∧
    (l ≠ [] → ∃ ad : Addr, A = some ad ∧ ∀ (j : Nat) d, l[j]? = some d → ∀ (i : Nat) u, (enC d)[i]? = some u → w.cell? (ad.add (j * 7 + i)) = some u)
theorem RdE.grown0 {w w' : World} {v : Value} {l : List En} (h : RdE w v l) (hg : w.grownBy w' none) : RdE w' v l := by
  obtain ⟨A, c, rfl, h1, h2, h3⟩ := h
  refine ⟨A, c, rfl, h1, h2, fun hne => ?_⟩
  obtain ⟨ad, rfl, hc⟩ := h3 hne
  refine ⟨ad, rfl, fun j t ht i u hu => ?_⟩
  have := hc j t ht i u hu
  have hlt := World.block_lt_of_cell? w _ this
  rw [← this]
  exact World.cell?_of_block (hg.block _ hlt (by simp))
theorem RdE.form {w : World} {v : Value} {l : List En} (h : RdE w v l) : ∃ A c, v = .slice A l.length c := by
  obtain ⟨A, c, hv, _⟩ := h
  exact ⟨A, c, hv⟩
theorem RdE.nil (w : World) : RdE w (.slice none 0 0) [] := ⟨none, 0, rfl, Nat.le_refl _, Nat.zero_le _, fun h => absurd rfl h⟩
theorem RdE.len {w : World} {A : Option Addr} {n c : Nat} {l : List En} (h : RdE w (.slice A n c) l) : l.length = n ∧ n ≤ c ∧ c ≤ maxLen := by
  obtain ⟨A', c', he, h1, h2, _⟩ := h
  injection he with e1 e2 e3
  subst e3 e2
  exact ⟨rfl, h1, h2⟩
theorem RdE.step {w : World} {A : Option Addr} {n c k : Nat} {l : List En} (h : RdE w (.slice A n c) l) (hk : k < l.length) :
    ∃ ad, A = some ad ∧ w.cell? (ad.add (k * 7)) = some (.string (bts (l.getD k default).path)) ∧ w.cell? ⟨(ad.add (k * 7)).block, (ad.add (k * 7)).off + 1, none⟩ = some (.int .i64 (l.getD k default).kind) ∧ w.cell? ⟨(ad.add (k * 7)).block, (ad.add (k * 7)).off + 2, none⟩ = some (.int .i64 (l.getD k default).mode) ∧ w.cell? ⟨(ad.add (k * 7)).block, (ad.add (k * 7)).off + 3, none⟩ = some (.int .i64 (l.getD k default).time) ∧ w.cell? ⟨(ad.add (k * 7)).block, (ad.add (k * 7)).off + 4, none⟩ = some (.string (bts (l.getD k default).to)) ∧ w.cell? ⟨(ad.add (k * 7)).block, (ad.add (k * 7)).off + 5, none⟩ = some (.int .i64 (l.getD k default).beg) ∧ w.cell? ⟨(ad.add (k * 7)).block, (ad.add (k * 7)).off + 6, none⟩ = some (.int .i64 (l.getD k default).size) := by
  obtain ⟨A', c', he, _, _, hc⟩ := h
  injection he with h1 h2 h3
  subst h1
  obtain ⟨ad, rfl, hcl⟩ := hc (by rintro rfl; simp at hk)
  have hg : l[k]? = some (l.getD k default) := by simp [List.getElem?_eq_getElem hk]
  have hd := fun i u hu => (by rw [add_add]; exact hcl k _ hg i u hu : w.cell? ((ad.add (k * 7)).add i) = some u)
  exact ⟨ad, rfl, hd 0 _ rfl, hd 1 _ rfl, hd 2 _ rfl, hd 3 _ rfl, hd 4 _ rfl, hd 5 _ rfl, hd 6 _ rfl⟩

/-- May an entry be, but for its path and its place? -/
def okE (e : En) : Bool :=
  !(decide (e.mode < 0) || decide (4095 < e.mode) || decide (e.time < 0) || decide (1099511627775 < e.time) || decide (e.size < 0) || decide (e.kind < 1) || decide (3 < e.kind)) &&
  !((e.kind != 1 && decide (0 < e.size)) || (e.kind != 3 && decide (0 < e.to.length)) || (e.kind == 3 && (e.to.length == 0 || decide (256 < e.to.length))))
def ascTo (l : List En) (k : Nat) : Bool := (List.range k).all fun j => j == 0 || decide (cmpP (l.getD (j - 1) default).path (l.getD j default).path < 0)
def sumE : List En → Int
  | [] => 0
  | e :: l => max e.size 0 + sumE l
def whyE (l : List En) : Int :=
  if l.all (fun e => rightB e.path) = false then 9
  else if ascTo l l.length = false then 10
  else if 1024 < l.length then 7
  else if l.all (fun e => decide (e.size ≤ 1048576)) = false then 7
  else if 4194304 < sumE l then 7
  else if l.all okE = false then 1 else 0
def sizesE : List En → Int
  | [] => 0
  | e :: l => e.size + sizesE l
def begsTo (l : List En) (k : Nat) : Bool := (List.range k).all fun j => (l.getD j default).beg == sizesE (l.take j)
def fineE (l : List En) : Bool := whyE l == 0 && begsTo l l.length
def totalE (l : List En) : Int := if fineE l then sizesE l else 0

theorem allE_next (l : List En) (f : En → Bool) (k : Nat) (h : k < l.length) (ha : (l.take k).all f = true) : (l.take (k + 1)).all f = f (l.getD k default) := by
  rw [List.take_add_one, List.getElem?_eq_getElem h, List.all_append, ha]
  simp [List.getElem?_eq_getElem h]
theorem allE_not (l : List En) (f : En → Bool) (k : Nat) (h : k < l.length) (ha : f (l.getD k default) = false) : l.all f = false := by
  rw [List.all_eq_false]
  exact ⟨l.getD k default, by simp [List.getElem?_eq_getElem h], by rw [ha]; decide⟩
theorem allE_end (l : List En) (f : En → Bool) (k : Nat) (h : l.length ≤ k) (ha : (l.take k).all f = true) : l.all f = true := by rwa [List.take_of_length_le h] at ha
theorem sumE_app (a b : List En) : sumE (a ++ b) = sumE a + sumE b := by
  induction a with
  | nil => simp [sumE]
  | cons e a ih => simp only [List.cons_append, sumE, ih]; omega
theorem sizesE_app (a b : List En) : sizesE (a ++ b) = sizesE a + sizesE b := by
  induction a with
  | nil => simp [sizesE]
  | cons e a ih => simp only [List.cons_append, sizesE, ih]; omega
theorem takeE (l : List En) (k : Nat) (h : k < l.length) : l.take (k + 1) = l.take k ++ [l.getD k default] := by
  rw [List.take_add_one, List.getElem?_eq_getElem h]; simp [List.getElem?_eq_getElem h]
theorem sumE_next (l : List En) (k : Nat) (h : k < l.length) : sumE (l.take (k + 1)) = sumE (l.take k) + max (l.getD k default).size 0 := by
  rw [takeE l k h, sumE_app]; simp [sumE]
theorem sizesE_next (l : List En) (k : Nat) (h : k < l.length) : sizesE (l.take (k + 1)) = sizesE (l.take k) + (l.getD k default).size := by
  rw [takeE l k h, sizesE_app]; simp [sizesE]
theorem ascTo_next (l : List En) (k : Nat) : ascTo l (k + 1) = (ascTo l k && (k == 0 || decide (cmpP (l.getD (k - 1) default).path (l.getD k default).path < 0))) := by simp [ascTo, List.range_succ]
theorem asc_not (l : List En) (k : Nat) (hk : k < l.length) (h : (k == 0 || decide (cmpP (l.getD (k - 1) default).path (l.getD k default).path < 0)) = false) : ascTo l l.length = false := by
  rw [ascTo, List.all_eq_false]
  exact ⟨k, List.mem_range.2 hk, by rw [h]; decide⟩
theorem begsTo_next (l : List En) (k : Nat) : begsTo l (k + 1) = (begsTo l k && (l.getD k default).beg == sizesE (l.take k)) := by simp [begsTo, List.range_succ]
theorem begs_not (l : List En) (k : Nat) (hk : k < l.length) (h : ((l.getD k default).beg == sizesE (l.take k)) = false) : begsTo l l.length = false := by
  rw [begsTo, List.all_eq_false]
  exact ⟨k, List.mem_range.2 hk, by rw [h]; decide⟩
/-- How long their texts are. -/
def Lens (l : List En) (m : Nat) : Prop := ∀ e ∈ l, e.path.length ≤ m ∧ e.to.length ≤ m
theorem Lens.at_ {l : List En} {m : Nat} (h : Lens l m) {k : Nat} (hk : k < l.length) : (bts (l.getD k default).path).size ≤ m ∧ (bts (l.getD k default).to).size ≤ m := by
  rw [bts_size, bts_size]
  exact h _ (by simp [List.getElem?_eq_getElem hk])
end Go.Proofs.YtiakkfcjdmecdaaDoor
