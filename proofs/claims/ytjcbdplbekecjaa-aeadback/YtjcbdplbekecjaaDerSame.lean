/-
  derive.at and derive.Same over this program.
-/
import Derived.Test.YtjcbdplbekecjaaCommon
import Derived.Test.YtjcbdplbekecjaaAppBytes
namespace Go.Proofs.Ytjcbdplbekecjaa
open Go.RowKit

theorem ofInt_i64 (a : Nat) (ha : a < 281474976710656) : (BitVec.ofInt 64 (a : Int)).toNat = a := by
  rw [BitVec.ofInt_natCast, BitVec.toNat_ofNat]; exact Nat.mod_eq_of_lt (by omega)
theorem or64i (a b : Nat) (ha : a < 281474976710656) (hb : b < 281474976710656) : bits .or .i64 (a : Int) (b : Int) = ((a ||| b : Nat) : Int) := by
  have hx : a ||| b < 2 ^ 48 := Nat.or_lt_two_pow (by omega) (by omega)
  show IntKind.i64.wrap ((BitVec.ofInt 64 (a : Int) ||| BitVec.ofInt 64 (b : Int)).toNat : Int) = _
  rw [BitVec.toNat_or, ofInt_i64 a ha, ofInt_i64 b hb, IntKind.wrap_i64]
  omega
theorem xor64i (a b : Nat) (ha : a < 281474976710656) (hb : b < 281474976710656) : bits .xor .i64 (a : Int) (b : Int) = ((a ^^^ b : Nat) : Int) := by
  have hx : a ^^^ b < 2 ^ 48 := Nat.xor_lt_two_pow (by omega) (by omega)
  show IntKind.i64.wrap ((BitVec.ofInt 64 (a : Int) ^^^ BitVec.ofInt 64 (b : Int)).toNat : Int) = _
  rw [BitVec.toNat_xor, ofInt_i64 a ha, ofInt_i64 b hb, IntKind.wrap_i64]
  omega
theorem xor_zero_iff (a b : Nat) : a ^^^ b = 0 ↔ a = b := by
  constructor
  · intro h
    have := congrArg (fun x => a ^^^ x) h
    simp only [← Nat.xor_assoc, Nat.xor_self, Nat.zero_xor, Nat.xor_zero] at this
    exact this.symm
  · rintro rfl; exact Nat.xor_self _
theorem or_zero_iff (a b : Nat) : a ||| b = 0 ↔ a = 0 ∧ b = 0 := by
  constructor
  · intro h
    exact ⟨Nat.le_zero.1 (h ▸ Nat.left_le_or), Nat.le_zero.1 (h ▸ Nat.right_le_or)⟩
  · rintro ⟨rfl, rfl⟩; rfl

theorem dat_any (A : Option Addr) (n c : Nat) (l : List UInt8) (k : Nat) (w : World) (hr : Rd w (.slice A n c) (bytesV l)) :
    Calls Try.prog 35 #[.slice A n c, .int .i64 (k : Int)] w (Val (.int .u8 ((l.getD k 0).toNat : Int)) w) := by
  have hl := hr.len.1
  rw [bytesV_len] at hl
  by_cases h : n ≤ k
  · have hb : decide ((n : Int) ≤ (k : Int)) = true := by simp; omega
    have hg : l.getD k 0 = 0 := by rw [List.getD_eq_getElem?_getD, List.getElem?_eq_none (by omega)]; rfl
    rw [hg]
    clear hr hl hg
    go_enter Try.func35, Try.ntmps35
    go_wp2
    go_ret
    exact ⟨rfl, grown_refl _ _⟩
  · have hb : decide ((n : Int) ≤ (k : Int)) = false := by simp; omega
    obtain ⟨ad, u, rfl, hu, hc⟩ := hr.cellAt (k := k) (by omega)
    have hg : u = .int .u8 ((l.getD k 0).toNat : Int) := by
      have hkl : k < l.length := by omega
      have : (bytesV l)[k]? = some (.int .u8 ((l.getD k 0).toNat : Int)) := by simp [bytesV, byteV, List.getElem?_eq_getElem hkl]
      rw [this] at hu
      exact (Option.some.inj hu).symm
    subst hg
    clear hr hl hu
    generalize l.getD k 0 = x at *
    go_enter Try.func35, Try.ntmps35
    go_wp2
    go_ret
    exact ⟨rfl, grown_refl _ _⟩

/-- How far two rows are the same. -/
def SameTo (l m : List UInt8) (k d : Nat) : Prop := d < 281474976710656 ∧ (d = 0 ↔ l.length = m.length ∧ ∀ j, j < k → l.getD j 0 = m.getD j 0)
theorem SameTo.zero (l m : List UInt8) (hl : l.length < 281474976710656) (hm : m.length < 281474976710656) : SameTo l m 0 (l.length ^^^ m.length) := by
  refine ⟨?_, ?_⟩
  · have : l.length ^^^ m.length < 2 ^ 48 := Nat.xor_lt_two_pow (by omega) (by omega)
    omega
  · rw [xor_zero_iff]; simp
theorem SameTo.next {l m : List UInt8} {k d : Nat} (h : SameTo l m k d) : SameTo l m (k + 1) (d ||| (l.getD k 0 ^^^ m.getD k 0).toNat) := by
  have h1 := UInt8.toNat_lt (l.getD k 0 ^^^ m.getD k 0)
  refine ⟨?_, ?_⟩
  · have : d ||| (l.getD k 0 ^^^ m.getD k 0).toNat < 2 ^ 48 := Nat.or_lt_two_pow (by have := h.1; omega) (by omega)
    omega
  · rw [or_zero_iff, h.2, UInt8.toNat_xor, xor_zero_iff, and_assoc]
    refine and_congr_right fun _ => ⟨fun ⟨h2, h3⟩ j hj => ?_, fun h2 => ⟨fun j hj => h2 j (by omega), congrArg UInt8.toNat (h2 k (by omega))⟩⟩
    rcases Nat.lt_or_ge j k with h4 | h4
    · exact h2 j h4
    · rw [show j = k by omega]
      exact UInt8.toNat_inj.1 h3
theorem SameTo.all {l m : List UInt8} {k d : Nat} (h : SameTo l m k d) (hk : l.length ≤ k) : (d = 0) ↔ l = m := by
  rw [h.2]
  constructor
  · rintro ⟨h1, h2⟩
    refine List.ext_getElem h1 fun j hj hj' => ?_
    have := h2 j (by omega)
    simpa [List.getElem?_eq_getElem hj, List.getElem?_eq_getElem hj'] using this
  · rintro rfl
    exact ⟨rfl, fun _ _ => rfl⟩

set_option maxHeartbeats 4000000 in
theorem same_any (A : Option Addr) (n c : Nat) (l : List UInt8) (B : Option Addr) (n2 c2 : Nat) (m : List UInt8) (w : World) (hr : Rd w (.slice A n c) (bytesV l)) (hr2 : Rd w (.slice B n2 c2) (bytesV m)) (hn : n < 281474976710656) (hn2 : n2 < 281474976710656) :
    Calls Try.prog 21 #[.slice A n c, .slice B n2 c2] w (Val (.bool (decide (l = m))) w) := by
  have HR := Lib.hid hr
  have HR2 := Lib.hid hr2
  have hl := hr.len.1
  have hl2 := hr2.len.1
  rw [bytesV_len] at hl hl2
  have hx := xor64i n n2 (by omega) (by omega)
  have hs := SameTo.zero l m (by omega) (by omega)
  rw [hl, hl2] at hs
  have HS := Lib.hid hs
  have HX := Lib.hid hx
  have HN := Lib.hid (And.intro hl hl2)
  clear hr hr2 hs hx hl hl2
  generalize hd0 : n ^^^ n2 = d0 at *
  clear hd0
  by_cases hnm : n < n2
  all_goals
    go_enter Try.func21, Try.ntmps21
    go_wp2
    rw [HX.out]
    have HNM := Lib.hid hnm
    clear HX hnm
    go_loopw [5, 17] (fun d i W => ∃ k dd : Nat, k ≤ max n n2 ∧ i = .int .i64 k ∧ d = .int .i64 dd ∧ SameTo l m k dd ∧ w.grownBy W none) (fun _ i _ => max n n2 - (intOf i).toNat)
    case atStart => exact ⟨0, d0, Nat.zero_le _, rfl, rfl, HS.out, grown_refl _ _⟩
    case round =>
      clear HS
      obtain ⟨k, d, hk, rfl, rfl, hs, hgr⟩ := hrel
      have HS := Lib.hid hs
      have HGR := Lib.hid hgr
      clear hs hgr
      by_cases hlt : k < max n n2
      · have hdl := HS.out.1
        have hxl := UInt8.toNat_lt (l.getD k 0 ^^^ m.getD k 0)
        have HX := Lib.hid (xor8 (l.getD k 0) (m.getD k 0))
        have HO := Lib.hid (or64i d (l.getD k 0 ^^^ m.getD k 0).toNat hdl (by omega))
        have HN' := Lib.hid HS.out.next
        have HW := Lib.hid (show wrap64 (((l.getD k 0 ^^^ m.getD k 0).toNat : Nat) : Int) = (((l.getD k 0 ^^^ m.getD k 0).toNat : Nat) : Int) by unfold wrap64; omega)
        have HA1 := Lib.hid (dat_any A n c l k wr (HR.out.grown0 HGR.out))
        have HA2 := Lib.hid (fun w1 (h : wr.grownBy w1 none) => dat_any B n2 c2 m k w1 (HR2.out.grown0 (HGR.out.trans h)))
        generalize l.getD k 0 = x at *
        generalize m.getD k 0 = y at *
        have hb : decide ((k : Int) < (n : Int)) = true ∨ decide ((k : Int) < (n2 : Int)) = true := by simp; omega
        have hb : (k < n ∧ ¬ n < n2) ∨ (k < n2 ∧ n < n2) := by omega
        have hb2 := HNM.out
        simp only [hb2, not_true_eq_false, not_false_eq_true, and_true, and_false, or_false, false_or] at hb
        clear hdl hxl hb2
        go_wp2_with fail
        refine HA1.out.mono ?_
        rintro e w1 ⟨rfl, hg1⟩
        go_wp2_with fail
        refine (HA2.out w1 hg1).mono ?_
        rintro e w2 ⟨rfl, hg2⟩
        go_wp2
        go_roundw
        case rel =>
          refine ⟨k + 1, _, by omega, by go_num, ?_, HN'.out, (HGR.out.trans hg1).trans hg2⟩
          rw [HX.out, HW.out]
          exact congrArg _ HO.out
        case measure => simp [intOf]; omega
      · have hall := HS.out.all (by have := HN.out; omega)
        have HD := Lib.hid (show ((d : Int) == 0) = decide (l = m) by
          rw [Bool.eq_iff_iff, decide_eq_true_iff, ← hall, beq_iff_eq]
          omega)
        have hb : ¬ k < n ∧ ¬ k < n2 := by omega
        clear hall
        go_wp2
        go_ret
        exact ⟨congrArg (fun b => Ending.returned (.bool b)) HD.out, HGR.out⟩
end Go.Proofs.Ytjcbdplbekecjaa
