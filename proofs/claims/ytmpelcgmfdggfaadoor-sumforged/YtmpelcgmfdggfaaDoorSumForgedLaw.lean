/-
  The walk of the law SumForged.
-/
import Derived.Test.YtmpelcgmfdggfaaDoorSumAwake
import Derived.Test.YtmpelcgmfdggfaaDoorAppBytes
import Derived.Deep.RegionLaw
namespace Go.Proofs.YtmpelcgmfdggfaaDoor
open Go.RowKit

set_option maxHeartbeats 1000000 in
theorem sumForged_walk (A : Option Addr) (n c : Nat) (l : List UInt8) (w : World) (hT : Tab w) (hr : Rd w (.slice A n c) (bytesV l)) :
    Calls Tryd.prog 6 #[.slice A n c] w (Awake w) := by
  have HR := Lib.hid hr
  have HT := Lib.hid hT
  have hl := hr.len.1
  rw [bytesV_len] at hl
  clear hr hT
  by_cases h : 3000 < n
  · have hb : decide (3000 < (n : Int)) = true := by simp; omega
    clear hl
    go_enter Tryd.func6, Tryd.ntmps6
    go_wp2_with fail
    refine (awake_any _ HT.out).mono ?_
    rintro e w1 ⟨rfl, hg1⟩
    go_wp2
    go_ret
    exact ⟨rfl, hg1⟩
  · have hb : decide (3000 < (n : Int)) = false := by simp; omega
    have HL := Lib.hid (And.intro hl h)
    have hz := crc_forged l
    have hF : unN 32 ones ^^^ (crc l ^^^ ones) = forged (crc l) := rfl
    rw [hF] at hz
    have HFo := forge_any (crc l)
    obtain ⟨f0, f1, f2, f3, hf⟩ : ∃ f0 f1 f2 f3, le4 (forged (crc l)) = [f0, f1, f2, f3] := ⟨_, _, _, _, rfl⟩
    rw [hf] at hz HFo
    have HF := Lib.hid HFo
    have HRO := Lib.hid (refOf_any _ l w HR.out)
    have HZ := Lib.hid hz
    clear hl h hz hF hf HFo
    generalize crc l = X at *
    go_enter Tryd.func6, Tryd.ntmps6
    go_wp2_with fail
    refine HRO.out.mono ?_
    rintro e w1 ⟨rfl, hw⟩
    have hw := hw.symm
    subst hw
    go_wp2_with fail
    refine (HF.out _).mono ?_
    rintro e w1 ⟨rfl, hg1⟩
    simp only [bytesV, byteV, List.map_cons, List.map_nil]
    go_wp2_with fail
    have hgw : w.grownBy (w1.alloc (.cells #[.int .u8 (f0.toNat : Int), .int .u8 (f1.toNat : Int), .int .u8 (f2.toNat : Int), .int .u8 (f3.toNat : Int)] 31)) none := grown_alloc hg1 _
    have hrf : Rd (w1.alloc (.cells #[.int .u8 (f0.toNat : Int), .int .u8 (f1.toNat : Int), .int .u8 (f2.toNat : Int), .int .u8 (f3.toNat : Int)] 31)) (.slice (some ⟨w1.heap.size, 0, none⟩) 4 4) (bytesV [f0, f1, f2, f3]) := Rd.new w1 (bytesV [f0, f1, f2, f3]) _ (0, 0) 4 (by simp [bytesV]) (by decide)
    have hsz : w1.heap.size < (w1.alloc (.cells #[.int .u8 (f0.toNat : Int), .int .u8 (f1.toNat : Int), .int .u8 (f2.toNat : Int), .int .u8 (f3.toNat : Int)] 31)).heap.size := by simp
    generalize w1.alloc (.cells #[.int .u8 (f0.toNat : Int), .int .u8 (f1.toNat : Int), .int .u8 (f2.toNat : Int), .int .u8 (f3.toNat : Int)] 31) = w2 at *
    generalize w1.heap.size = g at *
    have HT2 := Lib.hid (HT.out.grown hgw)
    have HR2 := Lib.hid (HR.out.grown0 hgw)
    have HRF := Lib.hid hrf
    have HGW := Lib.hid hgw
    have HSZ : Hid (g < w2.heap.size) := hsz
    clear hgw hrf hsz HT HR HF HRO hg1
    have H0 := own_drew (own_empty w2 w2.heap.size (Nat.le_refl _))
    have HR3 : Rd (w2.alloc (.cells #[] 5)).drew (.slice A n c) (bytesV l) := HR2.out.alloc (.cells #[] 5)
    have HN1 : 0 + l.length ≤ 1000000000000 := by have := HL.out; omega
    have HN2 : 0 + l.length + [f0, f1, f2, f3].length ≤ 1000000000000 := by have := HL.out; simp; omega
    have HB1 : w2.heap.size ≤ (w2.alloc (.cells #[] 5)).drew.heap.size := by simp
    have HG3 : ∀ w3, (w2.alloc (.cells #[] 5)).drew.grownBy w3 (Value.slice (some ⟨w2.heap.size, 0, none⟩) 0 0).ownBlock → w2.grownBy w3 none := fun w3 hg3 =>
      grown_new (grown_drew (grown_alloc (grown_refl _ _) _)) hg3 (fun b hb => by simp [Value.ownBlock] at hb; omega)
    have HH := Lib.hid (And.intro H0 (And.intro HR3 (And.intro HN1 (And.intro HN2 (And.intro HB1 HG3)))))
    clear H0 HR3 HN1 HN2 HB1 HG3
    have HOF : Hid (∀ v2 w4, w4.ownsRow w2.heap.size 5 1 v2 (0 + l.length + [f0, f1, f2, f3].length) ([] ++ bytesV l ++ bytesV [f0, f1, f2, f3]) → Calls Tryd.prog 11 #[v2] w4 fun e w5 => e = .returned (.int .u32 0) ∧ w5 = w4) := fun v2 w4 ho4 => by
      have h := refOf_any v2 (l ++ [f0, f1, f2, f3]) w4 (by have := Rd.of_own ho4; simpa [bytesV] using this)
      rw [HZ.out] at h
      exact h
    have HAW : Hid (∀ v1 w3 (w4 : World), w3.ownsRow w2.heap.size 5 1 v1 (0 + l.length) ([] ++ bytesV l) → (w2.alloc (.cells #[] 5)).drew.grownBy w3 (Value.slice (some ⟨w2.heap.size, 0, none⟩) 0 0).ownBlock → w3.grownBy w4 v1.ownBlock → Calls Tryd.prog 9 #[] w4 fun e w6 => e = .returned (.bool true) ∧ w.grownBy w6 none) := fun v1 w3 w4 ho3 hg3 hg4 => by
      have h4 : w2.grownBy w4 none := grown_new (HH.out.2.2.2.2.2 _ hg3) hg4 (fun b hb => (ho3.lt b hb).1)
      refine (awake_any w4 (HT2.out.grown h4)).mono ?_
      rintro e w6 ⟨rfl, hg6⟩
      exact ⟨rfl, (HGW.out.trans h4).trans hg6⟩
    go_region_law (first
      | (refine step_append_bytes _ rfl (.tmp 11) (.tmp 12) rfl w2.heap.size _ 0 [] rfl HH.out.1 _ l rfl HH.out.2.1 HH.out.2.2.1 HH.out.2.2.2.2.1 ?_; intro v1 w3 ho3 hg3 hat3; clear hat3)
      | (refine step_append_bytes _ rfl (.tmp 13) (.tmp 14) rfl w2.heap.size _ _ _ rfl ho3 _ [f0, f1, f2, f3] rfl (HRF.out.grown0 (HH.out.2.2.2.2.2 _ hg3)) HH.out.2.2.2.1 (HH.out.2.2.2.2.2 _ hg3).size ?_; intro v2 w4 ho4 hg4 hat4; clear hat4)
      | (go_simp; go_at_call 11; refine (HOF.out _ _ ho4).mono ?_; rintro e w5 ⟨rfl, rfl⟩)
      | (go_simp; go_at_call 9; refine (HAW.out _ _ _ ho3 hg3 hg4).mono ?_; rintro e w6 ⟨rfl, hg6⟩))
    go_wp2
    go_ret
    exact ⟨rfl, hg6⟩

end Go.Proofs.YtmpelcgmfdggfaaDoor
