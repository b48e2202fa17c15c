/-
  digest.Pad over this program: what stands behind so many bytes.
-/
import Derived.Test.YtmhcfbfdbminnaaDoorAppBytes
import Derived.Test.YtmhcfbfdbminnaaDoorRow
import Derived.Test.YtmhcfbfdbminnaaDoorSha
namespace Go.Proofs.YtmhcfbfdbminnaaDoor
open Go.RowKit

/-- make of bytes, with room behind them. -/
theorem wpList_make_bytes (w : World) {ops : Array Oper} {rest : List Oper} {o : Oper} {a : Act} {Q : Exit → Act → World → Prop} (hgd : o.guard = none) (x y : Operand) (ho : o.op = .makeSlice 22 x y)
    (n c : Nat) (hx : a.eval x = .int .i64 (n : Int)) (hy : a.eval y = .int .i64 (c : Int)) (hnc : n ≤ c) (hc : c ≤ 1000000000000)
    (h : ∀ w', w'.ownsRow w.heap.size 5 1 (.slice (some ⟨w.heap.size, 0, none⟩) n c) n (bytesV (List.replicate n 0)) → w.grownBy w' none → wpList Tryd.prog ops Q rest (a.put o.dst (.slice (some ⟨w.heap.size, 0, none⟩) n c)) w') : wpList Tryd.prog ops Q (o :: rest) a w :=
  wpList_plain hgd fun _ hK => by
    obtain ⟨i, hi, hz, hs1, hb⟩ := infoByte
    have hr := run_make (P := Tryd.prog) w 22 5 i (.int .u8 0) Tryd.underlying22 hi hz .i64 .i64 n c (by omega) (by omega) (by rw [hb]; omega) (by omega)
    simp only [Int.toNat_natCast, hs1, Nat.mul_one] at hr
    have e : (madeCells (Value.int .u8 0).cells c).toList = List.replicate c (.int .u8 0) := by
      rw [show (Value.int IntKind.u8 0).cells = #[.int .u8 0] from rfl, toList_madeCells_one]
    unfold Oper.wp execOp
    simp only [ho, hx, hy, Sem.run_bind, hr, Result.andThen_ok, Sem.run_pure]
    rw [Oper.upon_value]
    refine hK _ _ (h _ ?_ (grown_alloc (grown_refl _ _) _))
    refine ⟨by simp [bytesV], .inr ⟨w.heap.size, c, _, rfl, Nat.le_refl _, heap_alloc_last w _, hnc, by simp only [maxLen]; omega, by rw [size_madeCells, Nat.mul_one], ?_⟩⟩
    rw [e, Nat.mul_one, List.take_replicate, Nat.min_eq_left hnc]
    simp [bytesV, byteV]

theorem be8_take_succ (x k : Nat) (h : k < 8) : (be8 x).take (k + 1) = (be8 x).take k ++ [UInt8.ofNat (x / 256 ^ (7 - k))] := by
  rw [List.take_succ_eq_append_getElem (by rw [be8_len]; exact h)]
  simp [be8]

set_option maxHeartbeats 4000000 in
theorem pad_any (n : Nat) (hn : n ≤ 2199023255552) (w : World) :
    Calls Tryd.prog 25 #[.int .i64 (n : Int)] w (Out w (pad n)) := by
  have h0 : decide ((n : Int) < 0) = false := by simp
  have hz : (119 - (n : Int) % 64) % 64 = ((padZ n : Nat) : Int) := by unfold padZ; omega
  have hzl := padZ_lt n
  have hp : pad n = 128 :: List.replicate (padZ n) 0 ++ be8 (8 * n) := rfl
  generalize padZ n = z at *
  have HP := Lib.hid hp
  clear hp
  go_enter Tryd.func25, Tryd.ntmps25
  go_wp2_with (refine wpList_make_bytes _ rfl _ _ rfl (1 + z) (1 + z + 8) ?_ ?_ ?_ ?_ ?_)
  · exact congrArg (Value.int .i64) (show (1 + (z : Int)) = ((1 + z : Nat) : Int) by omega)
  · exact congrArg (Value.int .i64) (show (1 + (z : Int) + 8) = ((1 + z + 8 : Nat) : Int) by omega)
  · omega
  · omega
  intro w1 ho hg
  have c0 : w1.cell? ⟨w.heap.size, 0, none⟩ = some (.int .u8 0) := by
    rw [ho.cellAt 0 (by omega)]
    rw [show 1 + z = z + 1 by omega]
    rfl
  have f0 := ho.frozenAt 0
  have hst := (ho.stored 0 (.int .u8 128)).1
  have hgs := (ho.stored 0 (.int .u8 128)).2
  have hxs : (bytesV (List.replicate (1 + z) 0)).set 0 (.int .u8 128) = bytesV (128 :: List.replicate z 0) := by
    rw [show 1 + z = z + 1 by omega]
    rfl
  rw [hxs] at hst
  have HST := Lib.hid hst
  have HGS := Lib.hid (grown_own hg hgs (Nat.le_refl _))
  clear ho hg hst hgs hxs
  go_wp2
  go_loopw [4, 6] (fun p i W => ∃ k : Nat, k ≤ 8 ∧ i = .int .i64 (56 - 8 * (k : Int)) ∧ W.ownsRow w.heap.size 5 1 p (1 + z + k) (bytesV (128 :: List.replicate z 0 ++ (be8 (8 * n)).take k)) ∧ w.grownBy W none) (fun _ i _ => (intOf i + 8).toNat)
  case atStart => exact ⟨0, Nat.zero_le _, rfl, by rw [List.take_zero, List.append_nil]; exact HST.out, HGS.out⟩
  case round =>
    clear HST HGS c0 f0
    obtain ⟨k, hk, rfl, ho, hg⟩ := hrel
    have HO := Lib.hid ho
    have HG := Lib.hid hg
    have HSZ := Lib.hid hg.size
    clear ho hg
    by_cases hlt : k < 8
    · have hge : decide ((0 : Int) ≤ 56 - 8 * (k : Int)) = true := by simp; omega
      have hx : ((n : Int) * 8 / 2 ^ (56 - 8 * k) % 256) = ((UInt8.ofNat (8 * n / 256 ^ (7 - k))).toNat : Int) := by
        have e : (2 : Nat) ^ (56 - 8 * k) = 256 ^ (7 - k) := by rw [show 56 - 8 * k = 8 * (7 - k) by omega, Nat.pow_mul]
        have e2 : ((n : Int) * 8 / 2 ^ (56 - 8 * k) % 256) = ((8 * n / 2 ^ (56 - 8 * k) % 256 : Nat) : Int) := by
          simp only [Int.natCast_emod, Int.natCast_ediv, Int.natCast_pow, Int.natCast_mul]
          rw [Int.mul_comm]
          rfl
        rw [e2, e, UInt8.toNat_ofNat']
      have HBT := Lib.hid (be8_take_succ (8 * n) k hlt)
      generalize UInt8.ofNat (8 * n / 256 ^ (7 - k)) = y at *
      have HX := Lib.hid hx
      clear hx
      go_wp2_with (at_builtin; refine wpList_append_bytes _ rfl _ _ rfl w.heap.size _ (1 + z + k) _ rfl (HO.out.alloc _) _ [y] rfl ?_ ?_ ?_ ?_)
      · rw [HX.out]; exact Rd.one _ _ _
      · simp; omega
      · have := HSZ.out; simp; omega
      · intro v' w' ho hg hat
        go_wp2
        go_roundw
        case rel =>
          refine ⟨k + 1, by omega, by go_num, ?_, ?_⟩
          · rw [HBT.out, ← List.append_assoc, bytesV_app]
            exact ho
          · exact grown_new (grown_alloc HG.out _) hg (fun b hb => (HO.out.lt b hb).1)
        case measure => simp [intOf]; omega
    · have hge : decide ((0 : Int) ≤ 56 - 8 * (k : Int)) = false := by simp; omega
      have h8 : (be8 (8 * n)).take k = be8 (8 * n) := List.take_of_length_le (by rw [be8_len]; omega)
      rw [h8, ← HP.out] at HO
      go_wp2
      go_ret
      exact ⟨_, rfl, Rd.of_own HO.out, HG.out, fun b hb => HO.out.lt b hb⟩

set_option maxHeartbeats 1000000 in
theorem pad_below (n : Int) (hn : n < 0) (w : World) :
    Calls Tryd.prog 25 #[.int .i64 n] w (Out w []) := by
  have h0 : decide (n < 0) = true := by simpa using hn
  go_enter Tryd.func25, Tryd.ntmps25
  go_wp2
  go_ret
  exact ⟨_, rfl, Rd.nil _, grown_refl _ _, fun b hb => by cases hb⟩
end Go.Proofs.YtmhcfbfdbminnaaDoor
