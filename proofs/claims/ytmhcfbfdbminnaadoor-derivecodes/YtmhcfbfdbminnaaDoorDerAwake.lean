/-
  Layer 4's 'awake' over this program: true; nothing old is turned.
-/
import Derived.Test.YtmhcfbfdbminnaaDoorDerKey
import Derived.Test.YtmhcfbfdbminnaaDoorDerSame
import Derived.Lib.SlBytesConst
namespace Go.Proofs.YtmhcfbfdbminnaaDoor
open Go.RowKit

def Awake (w : World) (e : Ending) (w' : World) : Prop := e = .returned (.bool true) ∧ w.grownBy w' none

/-- What derive.Key answers of a number that may not be. -/
theorem key_none (A0 : Option Addr) (n0 c0 : Nat) (A1 : Option Addr) (n1 c1 : Nat) (A2 : Option Addr) (n2 c2 : Nat) (n : Int) (w : World) (hn : n < 0 ∨ 8160 < n) :
    Calls Tryd.prog 13 #[.slice A0 n0 c0, .slice A1 n1 c1, .slice A2 n2 c2, .int .i64 n] w (Val (.slice none 0 0) w) := by
  rcases hn with hn | hn
  · go_enter Tryd.func13, Tryd.ntmps13
    go_wp2
    go_ret
    exact ⟨rfl, grown_refl _ _⟩
  · have h0 : ¬ n < 0 := by omega
    go_enter Tryd.func13, Tryd.ntmps13
    go_wp2
    go_ret
    exact ⟨rfl, grown_refl _ _⟩

theorem const_at (w : World) (H : Nat) (hH : w.heap.size = H) (C : Array Value) (n c : Nat) :
    (convert 22 22 (.slice (some ⟨H, 0, none⟩) n c)).run Tryd.prog (w.alloc (.cells C 5)) = .ok (.slice (some ⟨H, 0, none⟩) n c) (w.alloc (.cells C 5 (C.size, C.size + 1))) := by
  subst hH
  exact Lib.run_convert_bytes_const (P := Tryd.prog) w 22 5 C n c Tryd.underlying22 Tryd.underlying5
theorem Rd.const (w : World) (H : Nat) (hH : w.heap.size = H) (l : List UInt8) (mk : Nat × Nat) (n : Nat) (hn : l.length = n) (hc : n ≤ maxLen) : Rd (w.alloc (.cells (bytesV l).toArray 5 mk)) (.slice (some ⟨H, 0, none⟩) n n) (bytesV l) := by
  subst hH hn
  have := Rd.new w (bytesV l) 5 mk (bytesV l).length (Nat.le_refl _) (by rw [bytesV_len]; exact hc)
  rw [bytesV_len] at this
  exact this

set_option maxHeartbeats 4000000 in
theorem awake_any (w : World) (hT : Tab w) : Calls Tryd.prog 10 #[] w (Awake w) := by
  have kc := const_at w w.heap.size rfl
  have kc1 := fun o => const_at (w.alloc o) (w.heap.size + 1) (by simp)
  have kc2 := fun o o2 => const_at ((w.alloc o).alloc o2) (w.heap.size + 1 + 1) (by simp)
  have HT := Lib.hid hT
  clear hT
  have r0 := ((Rd.const w w.heap.size rfl jefe (4, 5) 4 rfl (by decide)).alloc (.cells (bytesV what1).toArray 5 (16, 17))).alloc (.cells (bytesV what2).toArray 5 (12, 13))
  have r1 := (Rd.const (w.alloc (.cells (bytesV jefe).toArray 5 (4, 5))) (w.heap.size + 1) (by simp) what1 (16, 17) 16 rfl (by decide)).alloc (.cells (bytesV what2).toArray 5 (12, 13))
  have r2 := Rd.const ((w.alloc (.cells (bytesV jefe).toArray 5 (4, 5))).alloc (.cells (bytesV what1).toArray 5 (16, 17))) (w.heap.size + 1 + 1) (by simp) what2 (12, 13) 12 rfl (by decide)
  have hg := grown_alloc (grown_alloc (grown_alloc (grown_alloc (grown_refl w none) (.cells (bytesV jefe).toArray 5 (4, 5))) (.cells (bytesV what1).toArray 5 (16, 17))) (.cells (bytesV what2).toArray 5 (12, 13))) (.cells #[.slice (some ⟨w.heap.size + 1, 0, none⟩) 16 16, .slice (some ⟨w.heap.size + 1 + 1, 0, none⟩) 12 12] 22)
  have hcode := code_any (some ⟨w.heap.size, 0, none⟩) 4 4 jefe (.slice (some ⟨w.heap.size + 1 + 1 + 1, 0, none⟩) 2 2) [.slice (some ⟨w.heap.size + 1, 0, none⟩) 16 16, .slice (some ⟨w.heap.size + 1 + 1, 0, none⟩) 12 12] [what1, what2] _ (HT.out.grown hg) (r0.alloc _)
    (Rd.newAt _ [.slice (some ⟨w.heap.size + 1, 0, none⟩) 16 16, .slice (some ⟨w.heap.size + 1 + 1, 0, none⟩) 12 12] 22 2 (Nat.le_refl _) (by decide) (by simp)) (Parts.cons (r1.alloc _) (Parts.cons (r2.alloc _) (Parts.nil _))) (by decide) (by simp) (by decide)
  rw [show [what1, what2].flatten = what1 ++ what2 by simp] at hcode
  have HCODE := Lib.hid hcode
  have HG := Lib.hid hg
  clear r0 r1 r2 hg hcode
  go_enter Tryd.func10, Tryd.ntmps10
  go_wp2_with fail
  refine HCODE.out.mono ?_
  rintro e w1 ⟨rfl, hg1⟩
  have HG1 := Lib.hid (HG.out.trans hg1)
  have hj := hmac_jefe
  have hjl := hmac_len jefe (what1 ++ what2)
  generalize hmac jefe (what1 ++ what2) = X at *
  have HL32 := Lib.hid (show (bytesV X).length = 32 by rw [bytesV_len, hjl])
  have HX := Lib.hid (show (bytesV X)[0]? = some (.int .u8 91) ∧ (bytesV X)[1]? = some (.int .u8 220) ∧ (bytesV X)[2]? = some (.int .u8 193) ∧ (bytesV X)[3]? = some (.int .u8 70) by
    have e : X = [91, 220, 193, 70] ++ X.drop 4 := by rw [← hj, List.take_append_drop]
    rw [e]
    exact ⟨rfl, rfl, rfl, rfl⟩)
  clear hg1 HCODE HG hj hjl kc kc1 kc2
  go_wp2_with (refine wpList_store_row _ rfl rfl _ _ _ rfl w1.heap.size 24 (noughts8 32) (bytesV X) rfl rfl (Row.new w1 24 (noughts8 32)) (by rw [HL32.out]; rfl) (bytesV_one _) (by rw [HL32.out]; kernel_rfl) ?_; intro w2 hr2 hg2; have c0 := hr2.cell HX.out.1; have c1 := hr2.cell HX.out.2.1; have c2 := hr2.cell HX.out.2.2.1; have c3 := hr2.cell HX.out.2.2.2; clear hr2)
  have hgw2 := grown_own (grown_alloc HG1.out _) hg2 HG1.out.size
  clear c0 c1 c2 c3 hg2
  refine (key_any none 0 0 [] none 0 0 [] none 0 0 [] 33 w2 (HT.out.grown hgw2) (Rd.nil _) (Rd.nil _) (Rd.nil _) (by decide) (by decide) (by decide) (by decide)).mono ?_
  rintro e w3 ⟨v3, rfl, hr3, hg3, _⟩
  obtain ⟨A3, k3, rfl⟩ := hr3.form
  have hl3 : (bytesV (derived [] [] [] 33)).length = 33 := by rw [bytesV_len, derived_len]
  rw [hl3]
  have HG3 := Lib.hid (hgw2.trans hg3)
  have kc := const_at w3 w3.heap.size rfl
  have kc1 := fun o => const_at (w3.alloc o) (w3.heap.size + 1) (by simp)
  have r0 := (Rd.const w3 w3.heap.size rfl [97] (1, 2) 1 rfl (by decide)).alloc (.cells (bytesV [97]).toArray 5 (1, 2))
  have r1 := Rd.const (w3.alloc (.cells (bytesV [97]).toArray 5 (1, 2))) (w3.heap.size + 1) (by simp) [97] (1, 2) 1 rfl (by decide)
  have HS := Lib.hid (same_any _ 1 1 [97] _ 1 1 [97] _ r0 r1 (by decide) (by decide))
  clear r0 r1 hr3 hl3 hg3 hgw2
  go_wp2_with fail
  refine HS.out.mono ?_
  rintro e w4 ⟨rfl, hg4⟩
  go_wp2
  go_ret
  exact ⟨rfl, (grown_alloc (grown_alloc HG3.out _) _).trans hg4⟩
end Go.Proofs.YtmhcfbfdbminnaaDoor
