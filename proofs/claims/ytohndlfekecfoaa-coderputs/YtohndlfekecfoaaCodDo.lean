/-
  Slices of steps (four numbers each), and of truths: how they read (of no program).
-/
import Derived.Test.YtohndlfekecfoaaBase
namespace Go.Proofs.Ytohndlfekecfoaa
set_option maxRecDepth 1000000
open Go.RowKit

structure Dos where
  verb : Int
  k : Int
  n : Int
  bits : Int
def In64 (a : Int) : Prop := -9223372036854775808 ≤ a ∧ a ≤ 9223372036854775807
structure FitD (d : Dos) : Prop where
  verb : In64 d.verb
  k : In64 d.k
  n : In64 d.n
  bits : In64 d.bits
def doC (d : Dos) : List Value := [.int .i64 d.verb, .int .i64 d.k, .int .i64 d.n, .int .i64 d.bits]
/-- The slice value v reads, in world w, as these steps. -/
def RdD (w : World) (v : Value) (l : List Dos) : Prop :=
  ∃ A c, v = .slice A l.length c ∧ l.length ≤ c ∧ c ≤ maxLen ∧
    (l ≠ [] → ∃ ad : Addr, A = some ad ∧ ∀ (j : Nat) d, l[j]? = some d → ∀ (i : Nat) u, (doC d)[i]? = some u → w.cell? (ad.add (j * 4 + i)) = some u)
theorem RdD.grown0 {w w' : World} {v : Value} {l : List Dos} (h : RdD w v l) (hg : w.grownBy w' none) : RdD w' v l := by
  obtain ⟨A, c, rfl, h1, h2, h3⟩ := h
  refine ⟨A, c, rfl, h1, h2, fun hne => ?_⟩
  obtain ⟨ad, rfl, hc⟩ := h3 hne
  refine ⟨ad, rfl, fun j t ht i u hu => ?_⟩
  have := hc j t ht i u hu
  have hlt := World.block_lt_of_cell? w _ this
  rw [← this]
  exact World.cell?_of_block (hg.block _ hlt (by simp))
theorem RdD.len {w : World} {A : Option Addr} {n c : Nat} {l : List Dos} (h : RdD w (.slice A n c) l) : l.length = n ∧ n ≤ c ∧ c ≤ maxLen := by
  obtain ⟨A', c', he, h1, h2, _⟩ := h
  injection he with e1 e2 e3
  subst e3 e2
  exact ⟨rfl, h1, h2⟩
theorem RdD.step {w : World} {A : Option Addr} {n c k : Nat} {l : List Dos} (h : RdD w (.slice A n c) l) (hk : k < l.length) :
    ∃ ad d, A = some ad ∧ l[k] = d ∧ w.cell? (ad.add (k * 4)) = some (.int .i64 d.verb) ∧ w.cell? ⟨(ad.add (k * 4)).block, (ad.add (k * 4)).off + 1, none⟩ = some (.int .i64 d.k) ∧ w.cell? ⟨(ad.add (k * 4)).block, (ad.add (k * 4)).off + 2, none⟩ = some (.int .i64 d.n) ∧ w.cell? ⟨(ad.add (k * 4)).block, (ad.add (k * 4)).off + 3, none⟩ = some (.int .i64 d.bits) := by
  obtain ⟨A', c', he, _, _, hc⟩ := h
  injection he with h1 h2 h3
  subst h1
  obtain ⟨ad, rfl, hcl⟩ := hc (by rintro rfl; simp at hk)
  have hd := fun i u hu => (by rw [add_add]; exact hcl k _ (List.getElem?_eq_getElem hk) i u hu : w.cell? ((ad.add (k * 4)).add i) = some u)
  exact ⟨ad, _, rfl, rfl, hd 0 _ rfl, hd 1 _ rfl, hd 2 _ rfl, hd 3 _ rfl⟩
def boolsV (l : List Bool) : List Value := l.map Value.bool
theorem boolsV_len (l : List Bool) : (boolsV l).length = l.length := by simp [boolsV]
end Go.Proofs.Ytohndlfekecfoaa
