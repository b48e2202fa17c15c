/-
  A model at its beginning: all its cells are nought.
-/
import Derived.Test.YtibofgokdjbomaaPkTake
namespace Go.Proofs.Ytibofgokdjbomaa
set_option maxRecDepth 1000000
open Go.RowKit

/-- A cell of a model at the beginning, by its place. -/
def zeroAt (i : Nat) : Value := if i < 2322 then .int .i16 0 else if i = 2322 then .int .i64 0 else if i < 35091 then .int .u8 0 else .int .i64 0
def zeros : Nat → Nat → List Value
  | _, 0 => []
  | s, k + 1 => zeroAt s :: zeros (s + 1) k
theorem zeros_app : ∀ (a b s : Nat), zeros s (a + b) = zeros s a ++ zeros (s + a) b
  | 0, b, s => by simp [zeros]
  | a + 1, b, s => by
    rw [show a + 1 + b = (a + b) + 1 by omega, zeros, zeros, zeros_app a b (s + 1), List.cons_append, show s + 1 + a = s + (a + 1) by omega]
theorem zeros_same (v : Value) : ∀ (k s : Nat), (∀ i, s ≤ i → i < s + k → zeroAt i = v) → zeros s k = List.replicate k v
  | 0, _, _ => rfl
  | k + 1, s, h => by
    rw [zeros, h s (Nat.le_refl _) (by omega), zeros_same v k (s + 1) (fun i h1 h2 => h i (by omega) (by omega)), List.replicate_succ]
theorem chV_rep (n : Nat) : chV (List.replicate n 1024) = List.replicate n (.int .i16 0) := by
  unfold chV
  rw [List.map_replicate]
  rfl
theorem bytesV_rep (n : Nat) : bytesV (List.replicate n 0) = List.replicate n (.int .u8 0) := by
  unfold bytesV
  rw [List.map_replicate]
  rfl
theorem zeros_parts (n m : Nat) (hn : n = 2322) (hm : m = 32768) : zeros 0 (n + (1 + (m + 1))) = List.replicate n (.int .i16 0) ++ (.int .i64 0 :: (List.replicate m (.int .u8 0) ++ [.int .i64 0])) := by
  rw [zeros_app, zeros_app, zeros_app]
  rw [zeros_same (.int .i16 0) n 0 (fun i _ h => by unfold zeroAt; rw [if_pos (by omega)]), zeros_same (.int .u8 0) m _ (fun i h1 h2 => by unfold zeroAt; rw [if_neg (by omega), if_neg (by omega), if_pos (by omega)])]
  have e1 : zeros (0 + n) 1 = [.int .i64 0] := by
    show [zeroAt (0 + n)] = _
    unfold zeroAt
    rw [if_neg (by omega), if_pos (by omega)]
  have e2 : zeros (0 + n + 1 + m) 1 = [.int .i64 0] := by
    show [zeroAt (0 + n + 1 + m)] = _
    unfold zeroAt
    rw [if_neg (by omega), if_neg (by omega), if_neg (by omega)]
  rw [e1, e2]
  rfl
theorem modR_none (m : Nat) (hm : m = 32768) : modR 0 [] = .int .i64 0 :: (List.replicate m (.int .u8 0) ++ [.int .i64 0]) := by
  have : ringB [] = List.replicate m 0 := by rw [hm]; unfold ringB ringFrom; rfl
  unfold modR
  rw [this, bytesV_rep]
  rfl
theorem zeros_all : zeros 0 35092 = chR (modR 0 []) (List.replicate 2322 1024) := by
  have h := zeros_parts 2322 32768 rfl rfl
  unfold chR
  rw [modR_none 32768 rfl, chV_rep]
  exact h
theorem zeroModel : Try.zeroCells87.toList = zeros 0 35092 := by kernel_rfl
end Go.Proofs.Ytibofgokdjbomaa
