/-
  pack's model over this program: kinds, bytes back, bytes put.
-/
import Derived.Test.YtibofgokdjbomaaPkRing
namespace Go.Proofs.Ytibofgokdjbomaa
set_option maxRecDepth 1000000
open Go.RowKit

theorem kindOf_any (t : Tok) (w : World) : Calls Try.prog 77 #[tokV t] w (Val (.int .i64 (kindN t : Int)) w) := by
  obtain ⟨c, n, b⟩ := t
  unfold tokV kindN
  simp only
  by_cases h : 0 < n
  · have hd : decide (0 < n) = true := by simpa using h
    rw [if_pos h]
    go_enter Try.func77, Try.ntmps77
    go_wp2
    go_ret
    exact ⟨rfl, grown_alloc (grown_refl _ _) _⟩
  · have hd : decide (0 < n) = false := by simpa using h
    rw [if_neg h]
    go_enter Try.func77, Try.ntmps77
    go_wp2
    go_ret
    exact ⟨rfl, grown_alloc (grown_refl _ _) _⟩
theorem ex_max0b {o : Oper} {a : Act} {w : World} {x : Operand} {q : Int} (h : o.op = .call { callee := .builtin .max, args := #[.const (.int .i64 0), x], argTypes := #[3, 3] }) (hx : a.eval x = .int .i64 q) : (execOp a.eval o).run Try.prog w = .ok (.value (.int .i64 (max 0 q))) w := by
  have hc : a.eval (.const (.int .i64 0)) = .int .i64 0 := rfl
  unfold execOp
  simp only [h, resolve, invoke, builtin, List.map_toArray, List.map_cons, List.map_nil, hx, hc]
  simp [go_sem]
  rw [Int.max_def]
  split <;> split <;> first | rfl | omega
theorem below_any (m : Nat) (hm : m ≤ 100) (w : World) : Calls Try.prog 76 #[.int .i64 (m : Int)] w (Val (.int .i64 ((m - 1 : Nat) : Int)) w) := by
  have hw : IntKind.i64.wrap ((m : Int) - 1) = (m : Int) - 1 := by rw [IntKind.wrap_i64]; omega
  have he : max 0 ((m : Int) - 1) = ((m - 1 : Nat) : Int) := by omega
  go_enter Try.func76, Try.ntmps76
  go_wp2_with (refine wpList_runs rfl (ex_max0b rfl rfl) ?_; rw [he])
  go_ret
  exact ⟨rfl, grown_refl _ _⟩
theorem byteBack_any (gm back : Nat) (x : Kst) (w : World) (h : Mo w gm x) (hl : x.L.length = 2322) (hb : 1 ≤ back ∧ back ≤ 32768) (hn : x.h.length ≤ 100000) :
    Calls Try.prog 79 #[.pointer (some ⟨gm, 0, none⟩), .int .i64 (back : Int)] w (Val (.int .u8 ((backB x.h back).toNat : Int)) w) := by
  have hat := h.at_ hl
  have hby := h.byte hl ((x.h.length + 32768 - back) % 32768) (by omega)
  rw [ring_back x.h back hb.1 hb.2] at hby
  have hw : IntKind.i64.wrap ((x.h.length : Int) - (back : Int)) = (x.h.length : Int) - (back : Int) := by rw [IntKind.wrap_i64]; omega
  have hm : ((x.h.length : Int) - (back : Int)) % 32768 = (((x.h.length + 32768 - back) % 32768 : Nat) : Int) := by omega
  have hlt : (x.h.length + 32768 - back) % 32768 < 32768 := by omega
  have hand : bits .and .i64 ((x.h.length : Int) - (back : Int)) 32767 = (((x.h.length + 32768 - back) % 32768 : Nat) : Int) := by
    rw [show (32767 : Int) = 2 ^ 15 - 1 from rfl, i64_mask _ 15 (by omega), ← hm]
    rfl
  generalize (x.h.length + 32768 - back) % 32768 = i at *
  generalize x.h.length = n at *
  generalize (backB x.h back).toNat = c at *
  clear h hl
  go_enter Try.func79, Try.ntmps79
  go_wp2
  go_quiet (fail)
  go_wp2
  go_ret
  exact ⟨rfl, grown_drewN (grown_refl _ _) _⟩
/-- What a call that turns a model leaves. -/
def MOut (gm : Nat) (x : Kst) (w : World) (e : Ending) (w' : World) : Prop := e = .returned (.tuple #[]) ∧ Mo w' gm x ∧ w.grownBy w' (some gm)
set_option maxHeartbeats 1000000 in
theorem add_at (gm : Nat) (x : Kst) (c : UInt8) (w : World) (h : Mo w gm x) (hl : x.L.length = 2322) (hn : x.h.length ≤ 100000) :
    Calls Try.prog 78 #[.pointer (some ⟨gm, 0, none⟩), .int .u8 (c.toNat : Int)] w (MOut gm { x with h := x.h ++ [c] } w) := by
  have hlt : x.h.length % 32768 < 32768 := by omega
  have hand : bits .and .i64 (x.h.length : Int) 32767 = ((x.h.length % 32768 : Nat) : Int) := by
    rw [show (32767 : Int) = 2 ^ 15 - 1 from rfl, i64_mask _ 15 (by omega)]
    norm_cast
  have HM := Lib.hid (show Mo w.drew gm x from h.grown0 (grown_drew (grown_refl _ _)))
  have HA := Lib.hid (HM.out.add hl c)
  have HG := Lib.hid (show w.grownBy ((w.drew.setCell ⟨gm, 2323 + x.h.length % 32768, none⟩ (.int .u8 (c.toNat : Int))).setCell ⟨gm, 35091, none⟩ (.int .i64 ((x.h.length + 1 : Nat) : Int))) (some gm) from (grown_trans2 (grown_trans2 (grown_drew (grown_refl _ _)) (grown_set _ _ _ _)) (grown_set _ _ _ _)))
  have hat := HM.out.at_ hl
  have hby := HM.out.byte hl (x.h.length % 32768) hlt
  have hf1 := Row.frozen HM.out (2323 + x.h.length % 32768)
  have hR := Row.set HM.out (2323 + x.h.length % 32768) (.int .u8 (c.toNat : Int))
  have hat2 : (w.drew.setCell ⟨gm, 2323 + x.h.length % 32768, none⟩ (.int .u8 (c.toNat : Int))).cell? ⟨gm, 35091, none⟩ = some (.int .i64 (x.h.length : Int)) := by
    refine Row.cell hR ?_
    rw [List.getElem?_set_ne (by omega)]
    have := chR_ge (modR x.kind x.h) x.L 32769
    rw [hl, modR_at] at this
    exact this
  have hf2 := Row.frozen hR 35091
  have hw : IntKind.i64.wrap ((x.h.length : Int) + 1) = (x.h.length : Int) + 1 := by rw [IntKind.wrap_i64]; omega
  rw [show ((x.h.length + 1 : Nat) : Int) = (x.h.length : Int) + 1 from rfl] at HA HG
  generalize (ringB x.h).getD (x.h.length % 32768) 0 = d at *
  generalize x.h.length % 32768 = i at *
  generalize ({ x with h := x.h ++ [c] } : Kst) = y at *
  generalize x.h.length = n at *
  have hlt2 : (i : Int) < 32768 := by omega
  have hlt3 : decide ((i : Int) < 32768) = true := by simpa using hlt2
  clear h hl HM hR
  go_enter Try.func78, Try.ntmps78
  go_wp2
  refine wp_region_still_tail 10 (by kernel_rfl) (by kernel_rfl) ?_
  change wpStill _ _ w.drew (fun a' => wpList _ _ _ _ a' w.drew) _ _
  generalize w.drew = W at *
  simp only [List.take_succ_cons, List.take_zero, List.drop_succ_cons, List.drop_zero]
  repeat still_step
  refine wpStill_nil ?_
  go_wp2
  refine bodyPost_end (results_none rfl _ _ _) rfl ?_
  exact ⟨rfl, HA.out, HG.out⟩
end Go.Proofs.Ytibofgokdjbomaa
