/-
  The walk of the law DeriveLong.
-/
import Derived.Test.YtmhcfbfdbminnaaDoorDerPartsLaw
namespace Go.Proofs.YtmhcfbfdbminnaaDoor
open Go.RowKit

/-- A key that is copied into a row of noughts. -/
theorem splice_long (k : List UInt8) (n : Nat) (h : k.length ≤ n) : splice (bytesV (List.replicate n 0)) 0 (bytesV (k.take n)) = bytesV (k ++ List.replicate (n - k.length) 0) := by
  have e : (bytesV (List.replicate n 0)).drop k.length = bytesV (List.replicate (n - k.length) 0) := by
    unfold bytesV
    rw [← List.map_drop, List.drop_replicate]
  rw [List.take_of_length_le h, bytesV_app]
  unfold splice
  rw [List.take_zero, List.nil_append, Nat.zero_add, bytesV_len, e]

set_option maxHeartbeats 4000000 in
theorem deriveLong_walk (A : Option Addr) (n c : Nat) (l : List UInt8) (A2 : Option Addr) (n2 c2 : Nat) (l2 : List UInt8) (x : Int) (w : World) (hT : Tab w) (hr : Rd w (.slice A n c) (bytesV l)) (hr2 : Rd w (.slice A2 n2 c2) (bytesV l2)) (hx : 0 ≤ x ∧ x ≤ 255) :
    Calls Tryd.prog 8 #[.slice A n c, .slice A2 n2 c2, .int .u8 x] w (Awake w) := by
  have HR := Lib.hid hr
  have HR2 := Lib.hid hr2
  have HT := Lib.hid hT
  have hl := hr.len.1
  have hl2 := hr2.len.1
  rw [bytesV_len] at hl hl2
  have HL := Lib.hid (And.intro hl hl2)
  clear hr hr2 hT hl hl2
  obtain ⟨m, rfl⟩ := Int.eq_ofNat_of_zero_le hx.1
  have hm : m ≤ 255 := by omega
  clear hx
  rcases Nat.lt_or_ge 200 n with h1 | h1
  · have hb : decide (200 < (n : Int)) = true := by simp; omega
    go_enter Tryd.func8, Tryd.ntmps8
    go_wp2_with fail
    refine (awake_any _ HT.out).mono ?_
    rintro e w1 ⟨rfl, hg1⟩
    go_wp2
    go_ret
    exact ⟨rfl, hg1⟩
  · have hb : decide (200 < (n : Int)) = false := by simp; omega
    rcases Nat.lt_or_ge 200 n2 with h2 | h2
    · have hb2 : decide (200 < (n2 : Int)) = true := by simp; omega
      go_enter Tryd.func8, Tryd.ntmps8
      go_wp2_with fail
      refine (awake_any _ HT.out).mono ?_
      rintro e w1 ⟨rfl, hg1⟩
      go_wp2
      go_ret
      exact ⟨rfl, hg1⟩
    · have hb2 : decide (200 < (n2 : Int)) = false := by simp; omega
      rcases Nat.lt_or_ge 64 n with h3 | h3
      · have hb3 : decide (64 < (n : Int)) = true := by simp; omega
        go_enter Tryd.func8, Tryd.ntmps8
        go_wp2_with fail
        refine (awake_any _ HT.out).mono ?_
        rintro e w1 ⟨rfl, hg1⟩
        go_wp2
        go_ret
        exact ⟨rfl, hg1⟩
      · have hb3 : decide (64 < (n : Int)) = false := by simp; omega
        have HM := Lib.hid (show m % 65 < 65 from Nat.mod_lt _ (by decide))
        rcases Nat.lt_or_ge 64 (n + m % 65) with h4 | h4
        · have hb4 : decide (64 < (n : Int) + (m : Int) % 65) = true := by simp; omega
          go_enter Tryd.func8, Tryd.ntmps8
          go_wp2_with fail
          refine (awake_any _ HT.out).mono ?_
          rintro e w1 ⟨rfl, hg1⟩
          go_wp2
          go_ret
          exact ⟨rfl, hg1⟩
        · have hb4 : decide (64 < (n : Int) + (m : Int) % 65) = false := by simp; omega
          go_enter Tryd.func8, Tryd.ntmps8
          go_wp2_with (refine wpList_make_bytes _ rfl _ _ rfl (n + m % 65) (n + m % 65) ?_ ?_ (Nat.le_refl _) (by omega) ?_)
          · exact congrArg (Value.int .i64) (show (n : Int) + (m : Int) % 65 = ((n + m % 65 : Nat) : Int) by omega)
          · exact congrArg (Value.int .i64) (show (n : Int) + (m : Int) % 65 = ((n + m % 65 : Nat) : Int) by omega)
          intro w1 ho1 hg1
          have r1 := Row.of_own ho1
          have HN := Lib.hid (And.intro h1 (And.intro h2 (And.intro h3 h4)))
          have HR1 := Lib.hid (HR.out.grown0 hg1)
          have hll := HL.out
          obtain ⟨w2, hrun, hr2, hg2⟩ := run_copy_rd w1 3 w.heap.size 0 (n + m % 65) (n + m % 65) (.slice A n c) l (HR.out.grown0 hg1) _ 5 r1 (by rw [bytesV_len, List.length_replicate]; omega)
          rw [splice_long l (n + m % 65) (by omega)] at hr2
          have hg02 : w.grownBy w2 none := grown_own hg1 hg2 (Nat.le_refl _)
          have HG2 := Lib.hid hg02
          have HLL := Lib.hid (hmac_long l l2 (n + m % 65 - l.length) (by omega))
          have HLEN := Lib.hid (show (bytesV (l ++ List.replicate (n + m % 65 - l.length) 0)).length = n + m % 65 by rw [bytesV_len, List.length_append, List.length_replicate]; omega)
          generalize l ++ List.replicate (n + m % 65 - l.length) 0 = long at *
          have RLong := Lib.hid (hr2.rds (n + m % 65) (n + m % 65) HLEN.out (Nat.le_refl _) (by unfold maxLen; omega))
          have HC1 := Lib.hid (code_one A n c l (.slice A2 n2 c2) l2 w2 w2.heap.size rfl (HT.out.grown hg02) (HR.out.grown0 hg02) (HR2.out.grown0 hg02) (by omega) (by omega))
          have HRUN := Lib.hid hrun
          generalize w.heap.size = G at *
          generalize n + m % 65 = N at *
          clear ho1 hg1 r1 h1 h2 h3 h4 hll hrun hr2 hg2 hg02
          go_wp2
          rw [HRUN.out]
          clear HRUN
          go_wp2_with fail
          refine HC1.out.mono ?_
          rintro e w3 ⟨rfl, hg3⟩
          have hg23 : w2.grownBy w3 none := (grown_alloc (grown_refl _ _) _).trans hg3
          have HG3 := Lib.hid (HG2.out.trans hg23)
          have HC2 := Lib.hid (code_one (some ⟨G, 0, none⟩) N N long (.slice A2 n2 c2) l2 w3 w3.heap.size rfl (HT.out.grown HG3.out) (RLong.out.grown0 hg23) (HR2.out.grown0 HG3.out) (by have := HN.out; omega) (by have := HN.out; have := HL.out; omega))
          clear hg3 hg23 HC1
          go_wp2_with fail
          refine HC2.out.mono ?_
          rintro e w4 ⟨rfl, hg4⟩
          have HG4 := Lib.hid (HG3.out.trans ((grown_alloc (grown_refl _ _) _).trans hg4))
          clear hg4 HC2
          rw [HLL.out]
          have HQ := eq_self (hmac l l2) (hmac_len _ _)
          generalize hmac l l2 = X at *
          have HAW := Lib.hid (awake_any w4 (HT.out.grown HG4.out))
          go_wp2_with fail
          refine HAW.out.mono ?_
          rintro e w5 ⟨rfl, hg5⟩
          go_wp2
          go_ret
          exact ⟨rfl, HG4.out.trans hg5⟩
end Go.Proofs.YtmhcfbfdbminnaaDoor
