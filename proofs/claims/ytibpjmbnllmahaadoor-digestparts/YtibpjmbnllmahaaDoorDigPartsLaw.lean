/-
  The walk of the law DigestParts.
-/
import Derived.Test.YtibpjmbnllmahaaDoorDigEq
namespace Go.Proofs.YtibpjmbnllmahaaDoor
open Go.RowKit

theorem of_three (v1 v2 v3 : Value) (l1 l2 l3 : List UInt8) (w : World) (t : TypeId) (hT : Tab w) (hr1 : Rd w v1 (bytesV l1)) (hr2 : Rd w v2 (bytesV l2)) (hr3 : Rd w v3 (bytesV l3)) (hlen : (l1 ++ l2 ++ l3).length ≤ 100000000000) :
    Calls Tryd.prog 10 #[.slice (some ⟨w.heap.size, 0, none⟩) 3 3] (w.alloc (.cells #[v1, v2, v3] t)) (Val (.agg (bytesV (sha (l1 ++ l2 ++ l3))).toArray) (w.alloc (.cells #[v1, v2, v3] t))) := by
  have h := of_any _ [v1, v2, v3] [l1, l2, l3] _ (hT.alloc (.cells #[v1, v2, v3] t)) (hT.alloc (.cells #[v1, v2, v3] t)).pos (Rd.new w [v1, v2, v3] t (0, 0) 3 (Nat.le_refl _) (by decide)) (Parts.cons (hr1.alloc _) (Parts.cons (hr2.alloc _) (Parts.cons (hr3.alloc _) (Parts.nil _)))) (by simpa using hlen)
  simpa using h

set_option maxHeartbeats 4000000 in
theorem digestParts_walk (A : Option Addr) (n c : Nat) (l : List UInt8) (A2 : Option Addr) (n2 c2 : Nat) (l2 : List UInt8) (A3 : Option Addr) (n3 c3 : Nat) (l3 : List UInt8) (w : World) (hT : Tab w) (hr : Rd w (.slice A n c) (bytesV l)) (hr2 : Rd w (.slice A2 n2 c2) (bytesV l2)) (hr3 : Rd w (.slice A3 n3 c3) (bytesV l3)) :
    Calls Tryd.prog 4 #[.slice A n c, .slice A2 n2 c2, .slice A3 n3 c3] w (Awake w) := by
  have HR := Lib.hid hr
  have HR2 := Lib.hid hr2
  have HR3 := Lib.hid hr3
  have HT := Lib.hid hT
  have hl := hr.len.1
  have hl2 := hr2.len.1
  have hl3 := hr3.len.1
  rw [bytesV_len] at hl hl2 hl3
  clear hr hr2 hr3 hT
  by_cases h : 300 < n ∨ 300 < n2 ∨ 300 < n3
  · have HL := Lib.hid (And.intro hl (And.intro hl2 hl3))
    clear hl hl2 hl3
    rcases Nat.lt_or_ge 300 n with h1 | h1
    · have hb : decide (300 < (n : Int)) = true := by simp; omega
      clear h
      go_enter Tryd.func4, Tryd.ntmps4
      go_wp2_with fail
      refine (awake_any _ HT.out).mono ?_
      rintro e w1 ⟨rfl, hg1⟩
      go_wp2
      go_ret
      exact ⟨rfl, hg1⟩
    · have hb : decide (300 < (n : Int)) = false := by simp; omega
      rcases Nat.lt_or_ge 300 n2 with h2 | h2
      · have hb2 : decide (300 < (n2 : Int)) = true := by simp; omega
        clear h
        go_enter Tryd.func4, Tryd.ntmps4
        go_wp2_with fail
        refine (awake_any _ HT.out).mono ?_
        rintro e w1 ⟨rfl, hg1⟩
        go_wp2
        go_ret
        exact ⟨rfl, hg1⟩
      · have hb2 : decide (300 < (n2 : Int)) = false := by simp; omega
        have hb3 : decide (300 < (n3 : Int)) = true := by simp; omega
        clear h
        go_enter Tryd.func4, Tryd.ntmps4
        go_wp2_with fail
        refine (awake_any _ HT.out).mono ?_
        rintro e w1 ⟨rfl, hg1⟩
        go_wp2
        go_ret
        exact ⟨rfl, hg1⟩
  · have hb : decide (300 < (n : Int)) = false := by simp; omega
    have hb2 : decide (300 < (n2 : Int)) = false := by simp; omega
    have hb3 : decide (300 < (n3 : Int)) = false := by simp; omega
    have hs : n ≤ 300 ∧ n2 ≤ 300 ∧ n3 ≤ 300 := by omega
    have HS := Lib.hid (And.intro hs (And.intro hl (And.intro hl2 hl3)))
    have hln : (l ++ l2 ++ l3).length ≤ 100000000000 := by simp; omega
    have HLN := Lib.hid hln
    clear h hs hl hl2 hl3 hln
    have HO := Lib.hid (of_three _ _ _ l l2 l3 w 22 HT.out HR.out HR2.out HR3.out HLN.out)
    go_enter Tryd.func4, Tryd.ntmps4
    go_wp2_with fail
    refine HO.out.mono ?_
    rintro e w0 ⟨rfl, hg0⟩
    have hg00 : w.grownBy w0 none := (grown_alloc (grown_refl _ _) _).trans hg0
    have HG00 := Lib.hid hg00
    have HR0 := Lib.hid (HR.out.grown0 hg00)
    have HR02 := Lib.hid (HR2.out.grown0 hg00)
    have HR03 := Lib.hid (HR3.out.grown0 hg00)
    have HT0 := Lib.hid (HT.out.grown hg00)
    clear hg0 hg00 HO
    go_wp2_with (at_builtin; refine wpList_append_bytes _ rfl _ _ rfl w0.heap.size _ 0 [] rfl (own_empty w0 _ (Nat.le_refl _)) _ l rfl (HR0.out.alloc _) ?_ ?_ ?_)
    · have := HS.out; omega
    · simp
    · intro v1 w1 ho1 hg1 hat1
      have hgw1 : w0.grownBy w1 none := grown_new (grown_alloc (grown_refl _ _) _) hg1 (fun b hb => by simp [Value.ownBlock] at hb; omega)
      have hrow1 : ∀ b, v1.ownBlock = some b → w0.heap.size ≤ b := fun b hb => (ho1.lt b hb).1
      clear hg1 hat1
      go_wp2_with (at_builtin; refine wpList_append_bytes _ rfl _ _ rfl w0.heap.size _ _ _ rfl ho1 _ l2 rfl (HR02.out.grown0 hgw1) ?_ ?_ ?_)
      · have := HS.out; omega
      · exact hgw1.size
      · intro v2 w2 ho2 hg2 hat2
        have hgw2 : w0.grownBy w2 none := grown_new hgw1 hg2 hrow1
        have hrow2 : ∀ b, v2.ownBlock = some b → w0.heap.size ≤ b := fun b hb => (ho2.lt b hb).1
        clear hg2 hat2 ho1 hgw1 hrow1
        go_wp2_with (at_builtin; refine wpList_append_bytes _ rfl _ _ rfl w0.heap.size _ _ _ rfl ho2 _ l3 rfl (HR03.out.grown0 hgw2) ?_ ?_ ?_)
        · have := HS.out; omega
        · exact hgw2.size
        · intro v3 w3 ho3 hg3 hat3
          have hgw3 : w0.grownBy w3 none := grown_new hgw2 hg3 hrow2
          have hr : Rd w3 v3 (bytesV (l ++ l2 ++ l3)) := by
            have := Rd.of_own ho3
            simpa [bytesV_app] using this
          clear hg3 hat3 ho2 hgw2 hrow2 ho3
          have HG3 := Lib.hid (HG00.out.trans hgw3)
          have HO3 := Lib.hid (of_one v3 (l ++ l2 ++ l3) w3 22 (HT0.out.grown hgw3) hr HLN.out)
          obtain ⟨A4, c4, rfl⟩ := hr.form
          generalize (bytesV (l ++ l2 ++ l3)).length = n4 at *
          clear hr hgw3
          go_wp2_with fail
          refine HO3.out.mono ?_
          rintro e w4 ⟨rfl, hg4⟩
          have HG4 := Lib.hid (HG3.out.trans ((grown_alloc (grown_refl _ _) _).trans hg4))
          clear hg4
          have HQ := eq_self (sha (l ++ l2 ++ l3)) (sha_len _)
          rw [List.append_assoc] at HQ ⊢
          generalize sha (l ++ (l2 ++ l3)) = X at *
          have HAW := Lib.hid (awake_any w4 (HT.out.grown HG4.out))
          go_wp2_with fail
          refine HAW.out.mono ?_
          rintro e w5 ⟨rfl, hg5⟩
          go_wp2
          go_ret
          exact ⟨rfl, HG4.out.trans hg5⟩
end Go.Proofs.YtibpjmbnllmahaaDoor
