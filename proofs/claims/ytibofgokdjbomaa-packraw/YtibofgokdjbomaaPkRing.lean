/-
  Layer 11's words: the last bytes, each where it will be driven out; a model in memory.
-/
import Derived.Test.YtibofgokdjbomaaPkTree
import Derived.Test.YtibofgokdjbomaaTokRow
namespace Go.Proofs.Ytibofgokdjbomaa
set_option maxRecDepth 1000000
open Go.RowKit

def ringFrom (r : List UInt8) : Nat → List UInt8 → List UInt8
  | _, [] => r
  | i, c :: h => ringFrom (r.set (i % 32768) c) (i + 1) h
def ringB (h : List UInt8) : List UInt8 := ringFrom (List.replicate 32768 0) 0 h
theorem ringFrom_app (c : UInt8) : ∀ (h : List UInt8) (r : List UInt8) (i : Nat), ringFrom r i (h ++ [c]) = (ringFrom r i h).set ((i + h.length) % 32768) c
  | [], _, _ => rfl
  | d :: h, r, i => by
    rw [List.cons_append, ringFrom, ringFrom_app c h, ringFrom, List.length_cons, show i + 1 + h.length = i + (h.length + 1) by omega]
theorem ringB_app (h : List UInt8) (c : UInt8) : ringB (h ++ [c]) = (ringB h).set (h.length % 32768) c := by
  unfold ringB
  rw [ringFrom_app, Nat.zero_add]
theorem ringFrom_len : ∀ (h r : List UInt8) (i : Nat), (ringFrom r i h).length = r.length
  | [], _, _ => rfl
  | c :: h, r, i => by rw [ringFrom, ringFrom_len h, List.length_set]
theorem ringB_len (h : List UInt8) : (ringB h).length = 32768 := by
  unfold ringB
  rw [ringFrom_len, List.length_replicate]
theorem getD_set_same (l : List UInt8) (i : Nat) (c : UInt8) (h : i < l.length) : (l.set i c).getD i 0 = c := by
  simp [List.getD_eq_getElem?_getD, List.getElem?_set_self h]
theorem getD_set_other (l : List UInt8) (i j : Nat) (c : UInt8) (h : i ≠ j) : (l.set i c).getD j 0 = l.getD j 0 := by
  simp [List.getD_eq_getElem?_getD, List.getElem?_set_ne h]
theorem getD_app_lt (l : List UInt8) (c : UInt8) (j : Nat) (h : j < l.length) : (l ++ [c]).getD j 0 = l.getD j 0 := by
  simp [List.getD_eq_getElem?_getD, List.getElem?_append_left h]
theorem getD_app_eq (l : List UInt8) (c : UInt8) : (l ++ [c]).getD l.length 0 = c := by
  simp [List.getD_eq_getElem?_getD]
theorem snoc_ind {p : List UInt8 → Prop} (h0 : p []) (h1 : ∀ l c, p l → p (l ++ [c])) (l : List UInt8) : p l := by
  have : ∀ n (l : List UInt8), l.length = n → p l := by
    intro n
    induction n with
    | zero => intro l hl; rw [List.length_eq_zero_iff.1 hl]; exact h0
    | succ n ih =>
      intro l hl
      have hne : l ≠ [] := by intro e; rw [e] at hl; cases hl
      rw [← List.dropLast_concat_getLast hne]
      exact h1 _ _ (ih _ (by rw [List.length_dropLast]; omega))
  exact this _ l rfl
theorem ring_at (h : List UInt8) : ∀ k, k < h.length → h.length ≤ k + 32768 → (ringB h).getD (k % 32768) 0 = h.getD k 0 := by
  refine snoc_ind (p := fun h => ∀ k, k < h.length → h.length ≤ k + 32768 → (ringB h).getD (k % 32768) 0 = h.getD k 0) (fun k hk => by simp at hk) (fun l c ih k hk hl => ?_) h
  rw [List.length_append, List.length_singleton] at hk hl
  rw [ringB_app]
  by_cases e : k = l.length
  · subst e
    rw [getD_set_same _ _ _ (by rw [ringB_len]; omega), getD_app_eq]
  · rw [getD_set_other _ _ _ _ (by omega), getD_app_lt _ _ _ (by omega)]
    exact ih k (by omega) (by omega)
theorem ring_zero (h : List UInt8) : ∀ k, h.length ≤ k → k < 32768 → (ringB h).getD k 0 = 0 := by
  refine snoc_ind (p := fun h => ∀ k, h.length ≤ k → k < 32768 → (ringB h).getD k 0 = 0) (fun k _ hk => ?_) (fun l c ih k hl hk => ?_) h
  · show (List.replicate 32768 (0 : UInt8)).getD k 0 = 0
    rw [List.getD_eq_getElem?_getD, List.getElem?_replicate, if_pos hk]
    rfl
  · rw [List.length_append, List.length_singleton] at hl
    rw [ringB_app, getD_set_other _ _ _ _ (by omega)]
    exact ih k (by omega) hk
/-- The byte so far back. -/
def backB (h : List UInt8) (back : Nat) : UInt8 := if back ≤ h.length then h.getD (h.length - back) 0 else 0
theorem ring_back (h : List UInt8) (back : Nat) (h1 : 1 ≤ back) (h2 : back ≤ 32768) : (ringB h).getD ((h.length + 32768 - back) % 32768) 0 = backB h back := by
  unfold backB
  by_cases e : back ≤ h.length
  · rw [if_pos e, ← ring_at h (h.length - back) (by omega) (by omega)]
    congr 1
    omega
  · rw [if_neg e]
    exact ring_zero h _ (by omega) (by omega)
theorem backB_one (h : List UInt8) : (backB h 1).toNat / 32 = upper h := by
  unfold upper backB
  congr 2
  rw [List.getLastD_eq_getLast?, List.getLast?_eq_getElem?]
  split
  · rw [List.getD_eq_getElem?_getD]
  · have : h = [] := List.length_eq_zero_iff.1 (by omega)
    subst this
    rfl

/-- What stands behind a model's chances. -/
def modR (kind : Nat) (h : List UInt8) : List Value := .int .i64 (kind : Int) :: (bytesV (ringB h) ++ [.int .i64 (h.length : Int)])
/-- A model lies in memory. -/
def Mo (w : World) (gm : Nat) (x : Kst) : Prop := Row w gm 87 (chR (modR x.kind x.h) x.L)
section
variable {w w' : World} {gm : Nat} {x : Kst}
theorem Mo.lt (h : Mo w gm x) : gm < w.heap.size := Row.lt h
theorem Mo.grown {row : Option Nat} (h : Mo w gm x) (hg : w.grownBy w' row) (hne : some gm ≠ row) : Mo w' gm x := Row.grown h hg hne
theorem Mo.grown0 (h : Mo w gm x) (hg : w.grownBy w' none) : Mo w' gm x := Row.grown0 h hg
theorem chR_ge (R : List Value) (l : List Nat) (j : Nat) : (chR R l)[l.length + j]? = R[j]? := by
  unfold chR
  rw [List.getElem?_append_right (by rw [chV_len]; omega), chV_len]
  congr 1
  omega
theorem Mo.kind (h : Mo w gm x) (hl : x.L.length = 2322) : w.cell? ⟨gm, 2322, none⟩ = some (.int .i64 (x.kind : Int)) := by
  refine Row.cell h ?_
  have := chR_ge (modR x.kind x.h) x.L 0
  rw [hl] at this
  rw [this]
  rfl
theorem modR_byte (kind : Nat) (h : List UInt8) (i : Nat) (hi : i < 32768) : (modR kind h)[i + 1]? = some (.int .u8 (((ringB h).getD i 0).toNat : Int)) := by
  have hb : i < (ringB h).length := by rw [ringB_len]; exact hi
  unfold modR
  rw [List.getElem?_cons_succ, List.getElem?_append_left (by simpa [bytesV] using hb)]
  simp [bytesV, byteV, List.getElem?_eq_getElem hb]
theorem modR_at (kind : Nat) (h : List UInt8) : (modR kind h)[32769]? = some (.int .i64 (h.length : Int)) := by
  unfold modR
  have e : (bytesV (ringB h)).length = 32768 := by rw [show (bytesV (ringB h)).length = (ringB h).length by simp [bytesV], ringB_len]
  rw [List.getElem?_cons_succ, List.getElem?_append_right (by omega), e]
  rfl
theorem Mo.byte (h : Mo w gm x) (hl : x.L.length = 2322) (i : Nat) (hi : i < 32768) : w.cell? ⟨gm, 2323 + i, none⟩ = some (.int .u8 (((ringB x.h).getD i 0).toNat : Int)) := by
  refine Row.cell h ?_
  have := chR_ge (modR x.kind x.h) x.L (i + 1)
  rw [hl, modR_byte _ _ _ hi] at this
  rw [← this]
  congr 1
  omega
theorem Mo.at_ (h : Mo w gm x) (hl : x.L.length = 2322) : w.cell? ⟨gm, 35091, none⟩ = some (.int .i64 (x.h.length : Int)) := by
  refine Row.cell h ?_
  have := chR_ge (modR x.kind x.h) x.L 32769
  rw [hl, modR_at] at this
  exact this
theorem chR_set2 (R : List Value) (l : List Nat) (j : Nat) (v : Value) : (chR R l).set (l.length + j) v = chR (R.set j v) l := by
  unfold chR
  rw [List.set_append_right _ _ (by rw [chV_len]; omega), chV_len]
  congr 2
  omega
theorem Mo.setKind (h : Mo w gm x) (hl : x.L.length = 2322) (k : Nat) : Mo (w.setCell ⟨gm, 2322, none⟩ (.int .i64 (k : Int))) gm { x with kind := k } := by
  have h2 := Row.set h 2322 (.int .i64 (k : Int))
  have := chR_set2 (modR x.kind x.h) x.L 0 (.int .i64 (k : Int))
  rw [hl] at this
  rw [this] at h2
  exact h2
theorem modR_put (kind : Nat) (h : List UInt8) (c : UInt8) : ((modR kind h).set (h.length % 32768 + 1) (.int .u8 (c.toNat : Int))).set 32769 (.int .i64 ((h.length + 1 : Nat) : Int)) = modR kind (h ++ [c]) := by
  unfold modR
  have e : (bytesV (ringB h)).length = 32768 := by rw [show (bytesV (ringB h)).length = (ringB h).length by simp [bytesV], ringB_len]
  rw [List.set_cons_succ, List.set_cons_succ, List.set_append_left _ _ (by omega), List.set_append_right _ _ (by rw [List.length_set]; omega), List.length_set, e, ringB_app]
  rw [show bytesV ((ringB h).set (h.length % 32768) c) = (bytesV (ringB h)).set (h.length % 32768) (.int .u8 (c.toNat : Int)) by simp [bytesV, byteV, List.map_set]]
  simp [byteV]
theorem Mo.add (h : Mo w gm x) (hl : x.L.length = 2322) (c : UInt8) :
    Mo ((w.setCell ⟨gm, 2323 + x.h.length % 32768, none⟩ (.int .u8 (c.toNat : Int))).setCell ⟨gm, 35091, none⟩ (.int .i64 ((x.h.length + 1 : Nat) : Int))) gm { x with h := x.h ++ [c] } := by
  have h2 := Row.set (Row.set h (2323 + x.h.length % 32768) (.int .u8 (c.toNat : Int))) 35091 (.int .i64 ((x.h.length + 1 : Nat) : Int))
  have e1 := chR_set2 (modR x.kind x.h) x.L (x.h.length % 32768 + 1) (.int .u8 (c.toNat : Int))
  have e2 := chR_set2 ((modR x.kind x.h).set (x.h.length % 32768 + 1) (.int .u8 (c.toNat : Int))) x.L 32769 (.int .i64 ((x.h.length + 1 : Nat) : Int))
  rw [hl] at e1 e2
  rw [show 2323 + x.h.length % 32768 = 2322 + (x.h.length % 32768 + 1) by omega, e1, e2, modR_put] at h2
  rw [show 2323 + x.h.length % 32768 = 2322 + (x.h.length % 32768 + 1) by omega]
  exact h2
end
end Go.Proofs.Ytibofgokdjbomaa
