/-
  octet's calls that put numbers and bytes, over this program.
-/
import Derived.Test.YtldambmhclgpoaaPut
namespace Go.Proofs.Ytldambmhclgpoaa
open Go.RowKit

/-- The bytes of a number, 7 bits each, the lowest first. -/
def enc (n : Nat) : List UInt8 := if n < 128 then [UInt8.ofNat n] else UInt8.ofNat (128 + n % 128) :: enc (n / 128)
theorem enc_small {n : Nat} (h : n < 128) : enc n = [UInt8.ofNat n] := by unfold enc; rw [if_pos h]
theorem enc_big {n : Nat} (h : 128 ≤ n) : enc n = UInt8.ofNat (128 + n % 128) :: enc (n / 128) := by rw [enc]; rw [if_neg (by omega)]
theorem enc_pos (n : Nat) : 0 < (enc n).length := by unfold enc; split <;> simp
theorem enc_len (n : Nat) : (enc n).length ≤ n + 1 := by
  induction n using Nat.strongRecOn with
  | _ n ih =>
    by_cases h : n < 128
    · rw [enc_small h]; simp
    · rw [enc_big (by omega)]
      have := ih (n / 128) (by omega)
      simp only [List.length_cons]
      omega
/-- The number that is put for n. -/
def norm (n : Int) : Nat := if n < 0 ∨ 1099511627775 < n then 0 else n.toNat
theorem norm_le (n : Int) : norm n ≤ 1099511627775 := by unfold norm; split <;> omega

theorem or128_fin : ∀ x : Fin 256, bits BinOp.or IntKind.u8 ((x.val : Nat) : Int) 128 = ((128 + x.val % 128 : Nat) : Int) := by decide +kernel
theorem or128 (m : Nat) : bits BinOp.or IntKind.u8 ((m : Int) % 256) 128 = ((UInt8.ofNat (128 + m % 128)).toNat : Int) := by
  have h := or128_fin ⟨m % 256, by omega⟩
  simp only at h
  rw [show ((m : Int) % 256) = ((m % 256 : Nat) : Int) by omega, h, UInt8.toNat_ofNat']
  omega

set_option maxHeartbeats 1000000 in
set_option maxRecDepth 100000 in
theorem numberBytes_any (n : Int) (w : World) :
    Calls Try.prog 33 #[.int .i64 n] w (Out w (enc (norm n))) := by
  have hN := norm_le n
  have hcase : (n = (norm n : Int) ∧ 0 ≤ n ∧ ¬ 1099511627775 < n) ∨ (n < 0 ∧ norm n = 0) ∨ (¬ n < 0 ∧ 1099511627775 < n ∧ norm n = 0) := by
    unfold norm
    by_cases h1 : n < 0
    · simp [h1]
    · by_cases h2 : 1099511627775 < n
      · simp [h1, h2]
      · simp [h1, h2]; omega
  generalize norm n = N at *
  rcases hcase with ⟨rfl, h1, h2⟩ | ⟨h1, hc⟩ | ⟨h1, h2, hc⟩
  · have h1 : decide ((N : Int) < 0) = false := by simp
    have h2 : decide (1099511627775 < (N : Int)) = false := by simp; omega
    have HC := Lib.hid (rfl : N = N)
    go_enter Try.func33, Try.ntmps33
    go_wp2
    go_loopw [0, 3] (fun a s W => ∃ (m : Nat) (pre : List UInt8), a = .int .i64 m ∧ m ≤ N ∧ pre ++ enc m = enc N ∧ W.ownsRow w.heap.size 5 1 s pre.length (bytesV pre) ∧ w.grownBy W none) (fun a _ _ => (intOf a).toNat)
    case atStart => first | exact ⟨N, [], rfl, Nat.le_refl _, rfl, World.ownsRow_nil _ _ _ _, grown_refl _ _⟩ | exact ⟨0, [], rfl, Nat.zero_le _, by rw [HC.out]; rfl, World.ownsRow_nil _ _ _ _, grown_refl _ _⟩
    case round =>
      obtain ⟨m, pre, rfl, hm, hpre, hown, hgr⟩ := hrel
      have hb := congrArg List.length hpre
      have hb2 := enc_len N
      rw [List.length_append] at hb
      have hb3 : pre.length ≤ 1099511627776 := by omega
      have HP := Lib.hid hpre
      clear hpre hb hb2
      obtain ⟨i, hi, hz, hs1, hb⟩ := info5
      have HI := Lib.hid (And.intro hi (And.intro hz (And.intro hs1 hb)))
      clear hb hi hz hs1
      by_cases hge : 128 ≤ m
      · have hE := enc_big hge
        have hx := or128 m
        generalize UInt8.ofNat (128 + m % 128) = x at hE hx
        have HX := Lib.hid hx
        have HE := Lib.hid hE
        clear hx hE
        go_wp2_with (at_builtin; refine wpList_append_rd _ rfl _ _ _ rfl w.heap.size 5 i (.int .u8 0) 1 Try.underlying22 HI.out.1 HI.out.2.1 HI.out.2.2.1 HI.out.2.2.2 rfl _ pre.length _ rfl (hown.alloc _) _ [byteV x] rfl ?_ (fun x hx => by simp at hx; subst hx; rfl) ?_ ?_ ?_ ?_)
        · rw [HX.out]; exact Rd.one _ _ _
        · simp; omega
        · simp; omega
        · have := hgr.size; simp; omega
        · intro v' w' ho hg hat
          go_wp2
          go_roundw
          case rel => 
            refine ⟨m / 128, pre ++ [x], ?_, by omega, ?_, ?_, ?_⟩
            · go_num
            · rw [← HP.out, HE.out]; simp
            · rw [bytesV_app, List.length_append]; exact ho
            · exact grown_new (grown_alloc hgr _) hg fun b hb => (hown.lt b hb).1
          case measure => simp [intOf]; omega
      · have hlt : m < 128 := by omega
        have hE := enc_small hlt
        have hx : (m : Int) = ((UInt8.ofNat m).toNat : Int) := by rw [UInt8.toNat_ofNat']; omega
        generalize UInt8.ofNat m = x at hE hx
        have HX := Lib.hid hx
        have HE := Lib.hid hE
        clear hx hE
        go_wp2_with (at_builtin; refine wpList_append_rd _ rfl _ _ _ rfl w.heap.size 5 i (.int .u8 0) 1 Try.underlying22 HI.out.1 HI.out.2.1 HI.out.2.2.1 HI.out.2.2.2 rfl _ pre.length _ rfl (hown.alloc _) _ [byteV x] rfl ?_ (fun x hx => by simp at hx; subst hx; rfl) ?_ ?_ ?_ ?_)
        · rw [HX.out]; exact Rd.one _ _ _
        · simp; omega
        · simp; omega
        · have := hgr.size; simp; omega
        · intro v' w' ho hg hat
          go_wp2
          go_ret
          refine ⟨_, rfl, ?_, grown_new (grown_alloc hgr _) hg (fun b hb => (hown.lt b hb).1), fun b hb => ho.lt b hb⟩
          rw [← HP.out, HE.out, bytesV_app]
          exact Rd.of_own ho
  · have h1 : decide (n < 0) = true := by simpa using h1
    have HC := Lib.hid hc
    clear hc
    go_enter Try.func33, Try.ntmps33
    go_wp2
    go_loopw [0, 3] (fun a s W => ∃ (m : Nat) (pre : List UInt8), a = .int .i64 m ∧ m ≤ N ∧ pre ++ enc m = enc N ∧ W.ownsRow w.heap.size 5 1 s pre.length (bytesV pre) ∧ w.grownBy W none) (fun a _ _ => (intOf a).toNat)
    case atStart => first | exact ⟨N, [], rfl, Nat.le_refl _, rfl, World.ownsRow_nil _ _ _ _, grown_refl _ _⟩ | exact ⟨0, [], rfl, Nat.zero_le _, by rw [HC.out]; rfl, World.ownsRow_nil _ _ _ _, grown_refl _ _⟩
    case round =>
      obtain ⟨m, pre, rfl, hm, hpre, hown, hgr⟩ := hrel
      have hb := congrArg List.length hpre
      have hb2 := enc_len N
      rw [List.length_append] at hb
      have hb3 : pre.length ≤ 1099511627776 := by omega
      have HP := Lib.hid hpre
      clear hpre hb hb2
      obtain ⟨i, hi, hz, hs1, hb⟩ := info5
      have HI := Lib.hid (And.intro hi (And.intro hz (And.intro hs1 hb)))
      clear hb hi hz hs1
      by_cases hge : 128 ≤ m
      · have hE := enc_big hge
        have hx := or128 m
        generalize UInt8.ofNat (128 + m % 128) = x at hE hx
        have HX := Lib.hid hx
        have HE := Lib.hid hE
        clear hx hE
        go_wp2_with (at_builtin; refine wpList_append_rd _ rfl _ _ _ rfl w.heap.size 5 i (.int .u8 0) 1 Try.underlying22 HI.out.1 HI.out.2.1 HI.out.2.2.1 HI.out.2.2.2 rfl _ pre.length _ rfl (hown.alloc _) _ [byteV x] rfl ?_ (fun x hx => by simp at hx; subst hx; rfl) ?_ ?_ ?_ ?_)
        · rw [HX.out]; exact Rd.one _ _ _
        · simp; omega
        · simp; omega
        · have := hgr.size; simp; omega
        · intro v' w' ho hg hat
          go_wp2
          go_roundw
          case rel => 
            refine ⟨m / 128, pre ++ [x], ?_, by omega, ?_, ?_, ?_⟩
            · go_num
            · rw [← HP.out, HE.out]; simp
            · rw [bytesV_app, List.length_append]; exact ho
            · exact grown_new (grown_alloc hgr _) hg fun b hb => (hown.lt b hb).1
          case measure => simp [intOf]; omega
      · have hlt : m < 128 := by omega
        have hE := enc_small hlt
        have hx : (m : Int) = ((UInt8.ofNat m).toNat : Int) := by rw [UInt8.toNat_ofNat']; omega
        generalize UInt8.ofNat m = x at hE hx
        have HX := Lib.hid hx
        have HE := Lib.hid hE
        clear hx hE
        go_wp2_with (at_builtin; refine wpList_append_rd _ rfl _ _ _ rfl w.heap.size 5 i (.int .u8 0) 1 Try.underlying22 HI.out.1 HI.out.2.1 HI.out.2.2.1 HI.out.2.2.2 rfl _ pre.length _ rfl (hown.alloc _) _ [byteV x] rfl ?_ (fun x hx => by simp at hx; subst hx; rfl) ?_ ?_ ?_ ?_)
        · rw [HX.out]; exact Rd.one _ _ _
        · simp; omega
        · simp; omega
        · have := hgr.size; simp; omega
        · intro v' w' ho hg hat
          go_wp2
          go_ret
          refine ⟨_, rfl, ?_, grown_new (grown_alloc hgr _) hg (fun b hb => (hown.lt b hb).1), fun b hb => ho.lt b hb⟩
          rw [← HP.out, HE.out, bytesV_app]
          exact Rd.of_own ho
  · have h1 : decide (n < 0) = false := by simpa using h1
    have h2 : decide (1099511627775 < n) = true := by simpa using h2
    have HC := Lib.hid hc
    clear hc
    go_enter Try.func33, Try.ntmps33
    go_wp2
    go_loopw [0, 3] (fun a s W => ∃ (m : Nat) (pre : List UInt8), a = .int .i64 m ∧ m ≤ N ∧ pre ++ enc m = enc N ∧ W.ownsRow w.heap.size 5 1 s pre.length (bytesV pre) ∧ w.grownBy W none) (fun a _ _ => (intOf a).toNat)
    case atStart => first | exact ⟨N, [], rfl, Nat.le_refl _, rfl, World.ownsRow_nil _ _ _ _, grown_refl _ _⟩ | exact ⟨0, [], rfl, Nat.zero_le _, by rw [HC.out]; rfl, World.ownsRow_nil _ _ _ _, grown_refl _ _⟩
    case round =>
      obtain ⟨m, pre, rfl, hm, hpre, hown, hgr⟩ := hrel
      have hb := congrArg List.length hpre
      have hb2 := enc_len N
      rw [List.length_append] at hb
      have hb3 : pre.length ≤ 1099511627776 := by omega
      have HP := Lib.hid hpre
      clear hpre hb hb2
      obtain ⟨i, hi, hz, hs1, hb⟩ := info5
      have HI := Lib.hid (And.intro hi (And.intro hz (And.intro hs1 hb)))
      clear hb hi hz hs1
      by_cases hge : 128 ≤ m
      · have hE := enc_big hge
        have hx := or128 m
        generalize UInt8.ofNat (128 + m % 128) = x at hE hx
        have HX := Lib.hid hx
        have HE := Lib.hid hE
        clear hx hE
        go_wp2_with (at_builtin; refine wpList_append_rd _ rfl _ _ _ rfl w.heap.size 5 i (.int .u8 0) 1 Try.underlying22 HI.out.1 HI.out.2.1 HI.out.2.2.1 HI.out.2.2.2 rfl _ pre.length _ rfl (hown.alloc _) _ [byteV x] rfl ?_ (fun x hx => by simp at hx; subst hx; rfl) ?_ ?_ ?_ ?_)
        · rw [HX.out]; exact Rd.one _ _ _
        · simp; omega
        · simp; omega
        · have := hgr.size; simp; omega
        · intro v' w' ho hg hat
          go_wp2
          go_roundw
          case rel => 
            refine ⟨m / 128, pre ++ [x], ?_, by omega, ?_, ?_, ?_⟩
            · go_num
            · rw [← HP.out, HE.out]; simp
            · rw [bytesV_app, List.length_append]; exact ho
            · exact grown_new (grown_alloc hgr _) hg fun b hb => (hown.lt b hb).1
          case measure => simp [intOf]; omega
      · have hlt : m < 128 := by omega
        have hE := enc_small hlt
        have hx : (m : Int) = ((UInt8.ofNat m).toNat : Int) := by rw [UInt8.toNat_ofNat']; omega
        generalize UInt8.ofNat m = x at hE hx
        have HX := Lib.hid hx
        have HE := Lib.hid hE
        clear hx hE
        go_wp2_with (at_builtin; refine wpList_append_rd _ rfl _ _ _ rfl w.heap.size 5 i (.int .u8 0) 1 Try.underlying22 HI.out.1 HI.out.2.1 HI.out.2.2.1 HI.out.2.2.2 rfl _ pre.length _ rfl (hown.alloc _) _ [byteV x] rfl ?_ (fun x hx => by simp at hx; subst hx; rfl) ?_ ?_ ?_ ?_)
        · rw [HX.out]; exact Rd.one _ _ _
        · simp; omega
        · simp; omega
        · have := hgr.size; simp; omega
        · intro v' w' ho hg hat
          go_wp2
          go_ret
          refine ⟨_, rfl, ?_, grown_new (grown_alloc hgr _) hg (fun b hb => (hown.lt b hb).1), fun b hb => ho.lt b hb⟩
          rw [← HP.out, HE.out, bytesV_app]
          exact Rd.of_own ho
end Go.Proofs.Ytldambmhclgpoaa
