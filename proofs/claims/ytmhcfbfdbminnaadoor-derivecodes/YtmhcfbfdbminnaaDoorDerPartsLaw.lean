/-
  The walk of the law DeriveParts.
-/
import Derived.Test.YtmhcfbfdbminnaaDoorDerAwake
import Derived.Test.YtmhcfbfdbminnaaDoorDigEq
namespace Go.Proofs.YtmhcfbfdbminnaaDoor
open Go.RowKit

theorem code_one (A : Option Addr) (n c : Nat) (k : List UInt8) (v : Value) (l : List UInt8) (w : World) (H : Nat) (hH : w.heap.size = H) (hT : Tab w) (hk : Rd w (.slice A n c) (bytesV k)) (hr : Rd w v (bytesV l)) (hn : n ≤ 1000000) (hlen : l.length ≤ 1000000000) :
    Calls Tryd.prog 11 #[.slice A n c, .slice (some ⟨H, 0, none⟩) 1 1] (w.alloc (.cells #[v] 22)) (Val (.agg (bytesV (hmac k l)).toArray) (w.alloc (.cells #[v] 22))) := by
  have h := code_any A n c k (.slice (some ⟨H, 0, none⟩) 1 1) [v] [l] _ (hT.alloc (.cells #[v] 22)) (hk.alloc _) (Rd.newAt w [v] 22 1 (Nat.le_refl _) (by decide) hH) (Parts.cons (hr.alloc _) (Parts.nil _)) hn (by simp) (by simpa using hlen)
  simpa using h
theorem code_three (A : Option Addr) (n c : Nat) (k : List UInt8) (v1 v2 v3 : Value) (l1 l2 l3 : List UInt8) (w : World) (H : Nat) (hH : w.heap.size = H) (hT : Tab w) (hk : Rd w (.slice A n c) (bytesV k)) (hr1 : Rd w v1 (bytesV l1)) (hr2 : Rd w v2 (bytesV l2)) (hr3 : Rd w v3 (bytesV l3)) (hn : n ≤ 1000000) (hlen : (l1 ++ l2 ++ l3).length ≤ 1000000000) :
    Calls Tryd.prog 11 #[.slice A n c, .slice (some ⟨H, 0, none⟩) 3 3] (w.alloc (.cells #[v1, v2, v3] 22)) (Val (.agg (bytesV (hmac k (l1 ++ l2 ++ l3))).toArray) (w.alloc (.cells #[v1, v2, v3] 22))) := by
  have h := code_any A n c k (.slice (some ⟨H, 0, none⟩) 3 3) [v1, v2, v3] [l1, l2, l3] _ (hT.alloc (.cells #[v1, v2, v3] 22)) (hk.alloc _) (Rd.newAt w [v1, v2, v3] 22 3 (Nat.le_refl _) (by decide) hH) (Parts.cons (hr1.alloc _) (Parts.cons (hr2.alloc _) (Parts.cons (hr3.alloc _) (Parts.nil _)))) hn (by simp) (by simp at hlen ⊢; omega)
  simpa using h

set_option maxHeartbeats 4000000 in
theorem deriveParts_walk (A : Option Addr) (n c : Nat) (l : List UInt8) (A2 : Option Addr) (n2 c2 : Nat) (l2 : List UInt8) (A3 : Option Addr) (n3 c3 : Nat) (l3 : List UInt8) (w : World) (hT : Tab w) (hr : Rd w (.slice A n c) (bytesV l)) (hr2 : Rd w (.slice A2 n2 c2) (bytesV l2)) (hr3 : Rd w (.slice A3 n3 c3) (bytesV l3)) :
    Calls Tryd.prog 4 #[.slice A n c, .slice A2 n2 c2, .slice A3 n3 c3] w (Awake w) := by
  have HR := Lib.hid hr
  have HR2 := Lib.hid hr2
  have HR3 := Lib.hid hr3
  have HT := Lib.hid hT
  have hl2 := hr2.len.1
  have hl3 := hr3.len.1
  rw [bytesV_len] at hl2 hl3
  have HL := Lib.hid (And.intro hl2 hl3)
  clear hr hr2 hr3 hT hl2 hl3
  rcases Nat.lt_or_ge 200 n with h1 | h1
  · have hb : decide (200 < (n : Int)) = true := by simp; omega
    go_enter Tryd.func4, Tryd.ntmps4
    go_wp2_with fail
    refine (awake_any _ HT.out).mono ?_
    rintro e w1 ⟨rfl, hg1⟩
    go_wp2
    go_ret
    exact ⟨rfl, hg1⟩
  · have hb : decide (200 < (n : Int)) = false := by simp; omega
    rcases Nat.lt_or_ge 200 n2 with h2 | h2
    · have hb2 : decide (200 < (n2 : Int)) = true := by simp; omega
      go_enter Tryd.func4, Tryd.ntmps4
      go_wp2_with fail
      refine (awake_any _ HT.out).mono ?_
      rintro e w1 ⟨rfl, hg1⟩
      go_wp2
      go_ret
      exact ⟨rfl, hg1⟩
    · have hb2 : decide (200 < (n2 : Int)) = false := by simp; omega
      rcases Nat.lt_or_ge 200 n3 with h3 | h3
      · have hb3 : decide (200 < (n3 : Int)) = true := by simp; omega
        go_enter Tryd.func4, Tryd.ntmps4
        go_wp2_with fail
        refine (awake_any _ HT.out).mono ?_
        rintro e w1 ⟨rfl, hg1⟩
        go_wp2
        go_ret
        exact ⟨rfl, hg1⟩
      · have hb3 : decide (200 < (n3 : Int)) = false := by simp; omega
        have HS := Lib.hid (And.intro h1 (And.intro h2 h3))
        have hco := code_three A n c l (.slice A2 n2 c2) (.slice none 0 0) (.slice A3 n3 c3) l2 [] l3 w w.heap.size rfl HT.out HR.out HR2.out (Rd.nil _) HR3.out (by omega) (by have := HL.out; simp; omega)
        rw [List.append_nil] at hco
        have HO := Lib.hid hco
        clear h1 h2 h3 hco
        go_enter Tryd.func4, Tryd.ntmps4
        go_wp2_with fail
        refine HO.out.mono ?_
        rintro e w0 ⟨rfl, hg0⟩
        have hg00 : w.grownBy w0 none := (grown_alloc (grown_refl _ _) _).trans hg0
        have HG00 := Lib.hid hg00
        have HR0 := Lib.hid (HR.out.grown0 hg00)
        have HR02 := Lib.hid (HR2.out.grown0 hg00)
        have HR03 := Lib.hid (HR3.out.grown0 hg00)
        have HT0 := Lib.hid (HT.out.grown hg00)
        clear hg0 hg00 HO
        go_wp2_with (at_builtin; refine wpList_append_bytes _ rfl _ _ rfl w0.heap.size _ 0 [] rfl (own_empty w0 _ (Nat.le_refl _)) _ l2 rfl (HR02.out.alloc _) ?_ ?_ ?_)
        · have := HS.out; have := HL.out; omega
        · simp
        · intro v1 w1 ho1 hg1 hat1
          have hgw1 : w0.grownBy w1 none := grown_new (grown_alloc (grown_refl _ _) _) hg1 (fun b hb => by simp [Value.ownBlock] at hb; omega)
          have hrow1 : ∀ b, v1.ownBlock = some b → w0.heap.size ≤ b := fun b hb => (ho1.lt b hb).1
          clear hg1 hat1
          go_wp2_with (at_builtin; refine wpList_append_bytes _ rfl _ _ rfl w0.heap.size _ _ _ rfl ho1 _ l3 rfl (HR03.out.grown0 hgw1) ?_ ?_ ?_)
          · have := HS.out; have := HL.out; omega
          · exact hgw1.size
          · intro v2 w2 ho2 hg2 hat2
            have hgw2 : w0.grownBy w2 none := grown_new hgw1 hg2 hrow1
            have hr : Rd w2 v2 (bytesV (l2 ++ l3)) := by
              have := Rd.of_own ho2
              simpa [bytesV_app] using this
            clear hg2 hat2 ho1 hgw1 hrow1 ho2
            have HG2 := Lib.hid (HG00.out.trans hgw2)
            have HO3 := Lib.hid (code_one A n c l v2 (l2 ++ l3) w2 w2.heap.size rfl (HT0.out.grown hgw2) (HR0.out.grown0 hgw2) hr (by have := HS.out; omega) (by have := HS.out; have := HL.out; simp; omega))
            obtain ⟨A4, c4, rfl⟩ := hr.form
            generalize (bytesV (l2 ++ l3)).length = n4 at *
            clear hr hgw2
            go_wp2_with fail
            refine HO3.out.mono ?_
            rintro e w4 ⟨rfl, hg4⟩
            have HG4 := Lib.hid (HG2.out.trans ((grown_alloc (grown_refl _ _) _).trans hg4))
            clear hg4
            have HQ := eq_self (hmac l (l2 ++ l3)) (hmac_len _ _)
            generalize hmac l (l2 ++ l3) = X at *
            have HAW := Lib.hid (awake_any w4 (HT.out.grown HG4.out))
            go_wp2_with fail
            refine HAW.out.mono ?_
            rintro e w5 ⟨rfl, hg5⟩
            go_wp2
            go_ret
            exact ⟨rfl, HG4.out.trans hg5⟩
end Go.Proofs.YtmhcfbfdbminnaaDoor
