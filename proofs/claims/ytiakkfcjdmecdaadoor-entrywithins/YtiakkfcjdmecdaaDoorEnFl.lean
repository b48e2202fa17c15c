/-
  Layer 13's files (of no program but for their cells).
-/
import Derived.Test.YtiakkfcjdmecdaaDoorEnGiven
namespace Go.Proofs.YtiakkfcjdmecdaaDoor
set_option maxRecDepth 1000000
open Go.RowKit

structure Fl where
  path : List UInt8
  kind : Int
  mode : Int
  time : Int
  data : List UInt8
  to : List UInt8
instance : Inhabited Fl := ⟨⟨[], 0, 0, 0, [], []⟩⟩
structure FitF (f : Fl) : Prop where
  kind : I64 f.kind
  mode : I64 f.mode
  time : I64 f.time
/-- A file's cells; u is its data's slice. -/
def flC (f : Fl) (u : Value) : List Value := [.string (bts f.path), .int .i64 f.kind, .int .i64 f.mode, .int .i64 f.time, u, .string (bts f.to)]
/-- The slice value v reads, in world w, as these files. -/
def RdF (w : World) (v : Value) (l : List Fl) : Prop :=
  ∃ A c, v = .slice A l.length c ∧ l.length ≤ c ∧ c ≤ maxLen ∧
    (l ≠ [] → ∃ ad : Addr, A = some ad ∧ ∀ (j : Nat) d, l[j]? = some d → ∃ u, Rd w u (bytesV d.data) ∧ ∀ (i : Nat) x, (flC d u)[i]? = some x → w.cell? (ad.add (j * 6 + i)) = some x)
theorem RdF.grown0 {w w' : World} {v : Value} {l : List Fl} (h : RdF w v l) (hg : w.grownBy w' none) : RdF w' v l := by
  obtain ⟨A, c, rfl, h1, h2, h3⟩ := h
  refine ⟨A, c, rfl, h1, h2, fun hne => ?_⟩
  obtain ⟨ad, rfl, hc⟩ := h3 hne
  refine ⟨ad, rfl, fun j t ht => ?_⟩
  obtain ⟨u, hu, hcl⟩ := hc j t ht
  refine ⟨u, hu.grown0 hg, fun i x hx => ?_⟩
  have := hcl i x hx
  have hlt := World.block_lt_of_cell? w _ this
  rw [← this]
  exact World.cell?_of_block (hg.block _ hlt (by simp))
theorem RdF.form {w : World} {v : Value} {l : List Fl} (h : RdF w v l) : ∃ A c, v = .slice A l.length c := by
  obtain ⟨A, c, hv, _⟩ := h
  exact ⟨A, c, hv⟩
theorem RdF.nil (w : World) : RdF w (.slice none 0 0) [] := ⟨none, 0, rfl, Nat.le_refl _, Nat.zero_le _, fun h => absurd rfl h⟩
theorem RdF.len {w : World} {A : Option Addr} {n c : Nat} {l : List Fl} (h : RdF w (.slice A n c) l) : l.length = n ∧ n ≤ c ∧ c ≤ maxLen := by
  obtain ⟨A', c', he, h1, h2, _⟩ := h
  injection he with e1 e2 e3
  subst e3 e2
  exact ⟨rfl, h1, h2⟩
theorem RdF.step {w : World} {A : Option Addr} {n c k : Nat} {l : List Fl} (h : RdF w (.slice A n c) l) (hk : k < l.length) :
    ∃ ad, A = some ad ∧ ∃ A2 c2, Rd w (.slice A2 (l.getD k default).data.length c2) (bytesV (l.getD k default).data) ∧ w.cell? (ad.add (k * 6)) = some (.string (bts (l.getD k default).path)) ∧ w.cell? ⟨(ad.add (k * 6)).block, (ad.add (k * 6)).off + 1, none⟩ = some (.int .i64 (l.getD k default).kind) ∧ w.cell? ⟨(ad.add (k * 6)).block, (ad.add (k * 6)).off + 2, none⟩ = some (.int .i64 (l.getD k default).mode) ∧ w.cell? ⟨(ad.add (k * 6)).block, (ad.add (k * 6)).off + 3, none⟩ = some (.int .i64 (l.getD k default).time) ∧ w.cell? ⟨(ad.add (k * 6)).block, (ad.add (k * 6)).off + 4, none⟩ = some (.slice A2 (l.getD k default).data.length c2) ∧ w.cell? ⟨(ad.add (k * 6)).block, (ad.add (k * 6)).off + 5, none⟩ = some (.string (bts (l.getD k default).to)) := by
  obtain ⟨A', c', he, _, _, hc⟩ := h
  injection he with h1 h2 h3
  subst h1
  obtain ⟨ad, rfl, hcl⟩ := hc (by rintro rfl; simp at hk)
  have hg : l[k]? = some (l.getD k default) := by simp [List.getElem?_eq_getElem hk]
  obtain ⟨u, hu, hcc⟩ := hcl k _ hg
  obtain ⟨A2, c2, rfl⟩ := hu.form
  rw [bytesV_len] at hu hcc
  have hd := fun i x hx => (by rw [add_add]; exact hcc i x hx : w.cell? ((ad.add (k * 6)).add i) = some x)
  exact ⟨ad, rfl, A2, c2, hu, hd 0 _ rfl, hd 1 _ rfl, hd 2 _ rfl, hd 3 _ rfl, hd 4 _ rfl, hd 5 _ rfl⟩
theorem takeF (l : List Fl) (k : Nat) (h : k < l.length) : l.take (k + 1) = l.take k ++ [l.getD k default] := by
  rw [List.take_add_one, List.getElem?_eq_getElem h]; simp [List.getElem?_eq_getElem h]
theorem allF_next (l : List Fl) (f : Fl → Bool) (k : Nat) (h : k < l.length) (ha : (l.take k).all f = true) : (l.take (k + 1)).all f = f (l.getD k default) := by
  rw [takeF l k h, List.all_append, ha]
  simp
theorem allF_not (l : List Fl) (f : Fl → Bool) (k : Nat) (h : k < l.length) (ha : f (l.getD k default) = false) : l.all f = false := by
  rw [List.all_eq_false]
  exact ⟨l.getD k default, by simp [List.getElem?_eq_getElem h], by rw [ha]; decide⟩
theorem allF_end (l : List Fl) (f : Fl → Bool) (k : Nat) (h : l.length ≤ k) (ha : (l.take k).all f = true) : l.all f = true := by rwa [List.take_of_length_le h] at ha

/-- May a file be gone through? -/
def okF (f : Fl) : Bool := !(decide (300 < f.path.length) || decide (300 < f.to.length) || decide (200 < f.data.length))
def fewB (l : List Fl) : Bool := decide (l.length ≤ 12) && l.all okF
/-- All the data of files. -/
def dataF (l : List Fl) : List UInt8 := l.flatMap Fl.data
/-- A file's entry, where its data stand at b. -/
def enF (f : Fl) (b : Int) : En := ⟨f.path, f.kind, f.mode, f.time, f.to, b, f.data.length⟩
def toldF (b : Nat) : List Fl → List En
  | [] => []
  | f :: l => enF f b :: toldF (b + f.data.length) l
theorem toldF_len (b : Nat) (l : List Fl) : (toldF b l).length = l.length := by
  induction l generalizing b with
  | nil => rfl
  | cons f l ih => simp [toldF, ih]
theorem toldF_app (b : Nat) (l m : List Fl) : toldF b (l ++ m) = toldF b l ++ toldF (b + (dataF l).length) m := by
  induction l generalizing b with
  | nil => simp [toldF, dataF]
  | cons f l ih => simp only [List.cons_append, toldF, ih, dataF, List.flatMap_cons, List.length_append, Nat.add_assoc]
theorem toldF_next (l : List Fl) (k : Nat) (h : k < l.length) : toldF 0 (l.take (k + 1)) = toldF 0 (l.take k) ++ [enF (l.getD k default) (dataF (l.take k)).length] := by
  rw [takeF l k h, toldF_app]; simp [toldF]
theorem dataF_next (l : List Fl) (k : Nat) (h : k < l.length) : dataF (l.take (k + 1)) = dataF (l.take k) ++ (l.getD k default).data := by
  rw [takeF l k h]; simp [dataF]
theorem fewB_len {l : List Fl} (h : fewB l = true) : l.length ≤ 12 ∧ ∀ f ∈ l, f.path.length ≤ 300 ∧ f.to.length ≤ 300 ∧ f.data.length ≤ 200 := by
  simp only [fewB, Bool.and_eq_true, decide_eq_true_eq, List.all_eq_true] at h
  refine ⟨h.1, fun f hf => ?_⟩
  have := h.2 f hf
  simp only [okF, Bool.not_eq_true', Bool.or_eq_false_iff, decide_eq_false_iff_not] at this
  omega
theorem dataF_bound (m : Nat) : ∀ (l : List Fl), (∀ f ∈ l, f.data.length ≤ m) → (dataF l).length ≤ l.length * m
  | [], _ => by simp [dataF]
  | f :: l, h => by
    have h1 := dataF_bound m l (fun x hx => h x (List.mem_cons_of_mem _ hx))
    have h2 := h f List.mem_cons_self
    simp only [dataF, List.flatMap_cons, List.length_append, List.length_cons] at *
    rw [Nat.add_mul]
    omega
theorem toldF_lens {l : List Fl} (h : ∀ f ∈ l, f.path.length ≤ 300 ∧ f.to.length ≤ 300) : ∀ b, Lens (toldF b l) 300 := by
  induction l with
  | nil => intro b e he; cases he
  | cons f l ih =>
    intro b e he
    rcases List.mem_cons.1 he with rfl | he
    · exact h f List.mem_cons_self
    · exact ih (fun x hx => h x (List.mem_cons_of_mem _ hx)) _ e he
end Go.Proofs.YtiakkfcjdmecdaaDoor
