/-
  math/bits.Len over this program, of small numbers.
-/
import Derived.Test.YtibofgokdjbomaaPkOps
namespace Go.Proofs.Ytibofgokdjbomaa
set_option maxRecDepth 1000000
open Go.RowKit

def lenTab (s : ByteArray) : Bool := (List.range 256).all fun i => s.data[i]? == some (UInt8.ofNat (nbits i))
theorem ex_idxTab {o : Oper} {a : Act} {w : World} {x : Operand} {s : ByteArray} (i : Nat) (hi : i < 256) (h : o.op = .index 9 (.const (.string s)) x) (hs : lenTab s = true) (hz : s.size = 256) (hx : a.eval x = .int .u8 (i : Int)) :
    (execOp a.eval o).run Try.prog w = .ok (.value (.int .u8 (nbits i : Int))) w := by
  have hc : a.eval (.const (.string s)) = .string s := rfl
  have h2 : s.data[i]? = some (UInt8.ofNat (nbits i)) := by
    have := List.all_eq_true.1 hs i (List.mem_range.2 hi)
    simpa using this
  obtain ⟨h3, h5⟩ := Array.getElem?_eq_some_iff.1 h2
  have h4 : (UInt8.ofNat (nbits i)).toNat = nbits i := by
    have := nbits_le (n := i) (k := 8) (by omega)
    rw [UInt8.toNat_ofNat']; omega
  simp only [execOp, h, hc, hx]
  simp [go_sem, hz]
  rw [dif_pos (by omega)]
  have h6 : s[i]'h3 = UInt8.ofNat (nbits i) := h5
  simp only [h6, h4]
  rfl
set_option maxHeartbeats 1000000 in
theorem len64_any (n : Nat) (hn : n < 65536) (w : World) : Calls Try.prog 90 #[.int .u64 (n : Int)] w (Val (.int .i64 (nbits n : Int)) w) := by
  have h1 : decide (4294967296 ≤ (n : Int)) = false := by simp; omega
  have h2 : decide (65536 ≤ (n : Int)) = false := by simp; omega
  by_cases h : n < 256
  · have h3 : decide (256 ≤ (n : Int)) = false := by simp; omega
    have hw8 : IntKind.u8.wrap (n : Int) = (n : Int) := by rw [IntKind.wrap_u8]; omega
    have hm : (n : Int) % 256 = (n : Int) := by omega
    have hb : nbits n ≤ 8 := nbits_le (k := 8) (by omega)
    have hw64 : wrap64 (nbits n : Int) = (nbits n : Int) := by unfold wrap64; omega
    go_enter Try.func90, Try.ntmps90
    go_wp2_with (refine wpList_runs rfl (ex_idxTab n h rfl (by kernel_rfl) (by kernel_rfl) rfl) ?_)
    go_ret
    exact ⟨rfl, grown_refl _ _⟩
  · have h3 : decide (256 ≤ (n : Int)) = true := by simp; omega
    obtain ⟨k, hk⟩ : ∃ k, n / 256 = k := ⟨_, rfl⟩
    have hk2 : k < 256 := by omega
    have hd : (n : Int) / 256 = (k : Int) := by omega
    have hw8 : IntKind.u8.wrap (k : Int) = (k : Int) := by rw [IntKind.wrap_u8]; omega
    have hm : (k : Int) % 256 = (k : Int) := by omega
    have hnb : nbits n = nbits k + 8 := by
      have e : k = n / 2 ^ 8 := hk.symm
      have a8 : ∀ j m, m / 2 ^ j ≠ 0 → nbits m = nbits (m / 2 ^ j) + j := by
        intro j
        induction j with
        | zero => intro m _; simp
        | succ j ih =>
          intro m hm
          rw [Nat.pow_succ, ← Nat.div_div_eq_div_mul] at hm ⊢
          have h0 : m / 2 ^ j ≠ 0 := fun e => hm (by rw [e])
          rw [ih m h0, nbits_half h0]
          omega
      rw [e]
      exact a8 8 n (by omega)
    have hb : nbits k ≤ 8 := nbits_le (k := 8) (by omega)
    have hn0 : ¬ n < 256 := h
    clear h
    go_enter Try.func90, Try.ntmps90
    go_wp2_with (refine wpList_runs rfl (ex_idxTab k hk2 rfl (by kernel_rfl) (by kernel_rfl) rfl) ?_)
    generalize nbits k = m at *
    have hw64 : wrap64 (m : Int) = (m : Int) := by unfold wrap64; omega
    have hw642 : wrap64 (8 + (m : Int)) = 8 + (m : Int) := by unfold wrap64; omega
    go_wp2
    go_ret
    refine ⟨?_, grown_refl _ _⟩
    show Ending.returned (.int .i64 (8 + (m : Int))) = _
    rw [hnb]
    congr 2
    omega
theorem bitsLen_any (n : Nat) (hn : n < 65536) (w : World) : Calls Try.prog 80 #[.int .u64 (n : Int)] w (Val (.int .i64 (nbits n : Int)) w) := by
  have HL := Lib.hid (fun W => len64_any n hn W)
  go_enter Try.func80, Try.ntmps80
  go_wp2_with fail
  refine (HL.out _).mono ?_
  rintro e w2 ⟨rfl, hg⟩
  generalize nbits n = m at *
  go_wp2
  go_ret
  exact ⟨rfl, hg⟩
end Go.Proofs.Ytibofgokdjbomaa
