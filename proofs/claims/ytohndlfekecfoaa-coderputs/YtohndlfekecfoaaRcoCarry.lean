/-
  The document's own carried of layer 10, over this program.
-/
import Derived.Test.YtohndlfekecfoaaRcoSaw
namespace Go.Proofs.Ytohndlfekecfoaa
set_option maxRecDepth 1000000
open Go.RowKit

set_option maxHeartbeats 4000000 in
theorem carried_any (v : Value) (b : List UInt8) (w : World) (hr : Rd w v (bytesV b)) (hl : b.length ≤ 1000000) :
    Calls Try.prog 35 #[v] w (Out w (incr b)) := by
  obtain ⟨A, c, rfl⟩ := hr.form
  rw [bytesV_len] at hr ⊢
  have HR := Lib.hid hr
  clear hr
  go_enter Try.func35, Try.ntmps35
  go_wp2_with (at_builtin; refine wpList_append_bytes _ rfl _ _ rfl w.heap.size _ 0 [] rfl ?_ _ b rfl ?_ ?_ ?_ ?_)
  · exact World.ownsRow_made _ _ _ (Nat.le_refl _) (Nat.zero_le _) rfl
  · exact HR.out.grown0 (grown_alloc (grown_refl _ _) _)
  · omega
  · simp
  intro v1 w1 ho1 hg1 hat1
  have hg1 := grown_new (grown_alloc (grown_refl w none) _) hg1 (fun k hk => by simp [Value.ownBlock] at hk; omega)
  try simp only [Nat.zero_add, List.nil_append] at ho1
  obtain ⟨A1, c1, rfl⟩ := own_form ho1
  have HS := Lib.hid (And.intro ho1 hg1)
  clear ho1 hg1 hat1 HR
  go_wp2
  go_loopw [4] (fun i W => ∃ (k : Nat) (l : List UInt8), k ≤ b.length ∧ i = .int .i64 ((k : Int) - 1) ∧ W.ownsRow w.heap.size 5 1 (.slice A1 b.length c1) b.length (bytesV l) ∧ l.length = b.length ∧ incrAt k l = incr b ∧ w.grownBy W none) (fun i _ => (intOf i + 1).toNat)
  case atStart => exact ⟨b.length, b, Nat.le_refl _, rfl, HS.out.1, rfl, rfl, HS.out.2⟩
  case round =>
    obtain ⟨k, l, hk, rfl, ho, hll, hin, hw⟩ := hrel
    clear HS
    cases k with
    | zero =>
      have HH := Lib.hid (And.intro ho (And.intro hll (And.intro hin hw)))
      clear ho hll hin hw
      go_wp2
      go_ret
      obtain ⟨ho, hll, hin, hw⟩ := HH.out
      rw [show incrAt 0 l = l from rfl] at hin
      subst hin
      exact ⟨_, rfl, Rd.of_own ho, hw, fun k hk => ho.lt k hk⟩
    | succ j =>
      obtain ⟨bb, c', e⟩ : ∃ bb c', Value.slice A1 b.length c1 = .slice (some ⟨bb, 0, none⟩) b.length c' := by
        rcases ho.2 with ⟨_, e⟩ | ⟨g, cap, cur, e, _⟩
        · omega
        · exact ⟨g, cap, e⟩
      injection e with e1 _ e3
      subst e1 e3
      rw [show ((j + 1 : Nat) : Int) - 1 = (j : Int) by omega]
      have c0 := ho.cellAt j (by omega)
      rw [bytesV_at l j (by omega)] at c0
      have k1 := ho.frozenAt j
      have HST := Lib.hid (show ∀ y : UInt8, (wr.setCell ⟨bb, j, none⟩ (.int .u8 (y.toNat : Int))).ownsRow w.heap.size 5 1 (.slice (some ⟨bb, 0, none⟩) b.length c1) b.length (bytesV (l.set j y)) ∧ w.grownBy (wr.setCell ⟨bb, j, none⟩ (.int .u8 (y.toNat : Int))) none from fun y => by
        have h := ho.stored j (.int .u8 (y.toNat : Int))
        refine ⟨?_, grown_own hw h.2 (ho.lt bb rfl).1⟩
        rw [show bytesV (l.set j y) = (bytesV l).set j (.int .u8 (y.toNat : Int)) from (bytesV_set l j y).symm]
        exact h.1)
      have HLL := Lib.hid hll
      have HK := Lib.hid (And.intro hk (show j < b.length by omega))
      have hjn : (j : Int) < (b.length : Int) := by omega
      have hinc : incrAt (j + 1) l = if l.getD j 0 + 1 = 0 then incrAt j (l.set j 0) else l.set j (l.getD j 0 + 1) := rfl
      rw [hinc] at hin
      clear hinc ho hw hll hk
      by_cases hz : l.getD j 0 + 1 = 0
      · rw [if_pos hz] at hin
        have hx := u8_last _ hz
        rw [hx] at c0
        have HIN := Lib.hid hin
        clear hin hz hx
        go_wp2
        go_roundw
        case rel => exact ⟨j, l.set j 0, by have := HK.out; omega, rfl, (HST.out 0).1, by rw [List.length_set]; exact HLL.out, HIN.out, (HST.out 0).2⟩
        case measure => simp only [intOf]; omega
      · rw [if_neg hz] at hin
        have hy := u8_next _ hz
        have HS1 := Lib.hid (HST.out (l.getD j 0 + 1))
        rw [hy.1] at HS1
        obtain ⟨hy1, hy2⟩ := hy
        have HIN := Lib.hid hin
        clear hin hz hy1
        generalize (l.getD j 0).toNat = x at *
        have hm : ((x : Int) + 1) % 256 = (x : Int) + 1 := by omega
        have hne0 : ((x : Int) + 1 == 0) = false := by simp; omega
        go_wp2
        go_ret
        have h1 := HS1.out
        rw [show (((x + 1 : Nat) : Int)) = (x : Int) + 1 by omega, HIN.out] at h1
        refine ⟨_, rfl, ?_, h1.2, fun k hk => h1.1.lt k hk⟩
        have := Rd.of_own h1.1
        exact this
end Go.Proofs.Ytohndlfekecfoaa
