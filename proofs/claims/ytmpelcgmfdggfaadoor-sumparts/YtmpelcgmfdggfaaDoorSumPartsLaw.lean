/-
  The walk of the law SumParts.
-/
import Derived.Test.YtmpelcgmfdggfaaDoorSumAwake
import Derived.Test.YtmpelcgmfdggfaaDoorAppBytes
namespace Go.Proofs.YtmpelcgmfdggfaaDoor
open Go.RowKit

theorem of_two (A : Option Addr) (n c : Nat) (l : List UInt8) (A2 : Option Addr) (n2 c2 : Nat) (l2 : List UInt8) (w : World) (t : TypeId) (hT : Tab w) (hr : Rd w (.slice A n c) (bytesV l)) (hr2 : Rd w (.slice A2 n2 c2) (bytesV l2)) :
    Calls Tryd.prog 10 #[.slice (some ⟨w.heap.size, 0, none⟩) 2 2] (w.alloc (.cells #[.slice A n c, .slice A2 n2 c2] t)) (U32 (crc (l ++ l2)) (w.alloc (.cells #[.slice A n c, .slice A2 n2 c2] t))) := by
  have h := of_any _ [.slice A n c, .slice A2 n2 c2] [l, l2] _ (hT.alloc (.cells #[.slice A n c, .slice A2 n2 c2] t)) (Rd.new w [.slice A n c, .slice A2 n2 c2] t (0, 0) 2 (Nat.le_refl _) (by decide)) (Parts.cons (hr.alloc _) (Parts.cons (hr2.alloc _) (Parts.nil _)))
  simpa using h
theorem of_three (A : Option Addr) (n c : Nat) (l : List UInt8) (A2 : Option Addr) (n2 c2 : Nat) (l2 : List UInt8) (A3 : Option Addr) (n3 c3 : Nat) (l3 : List UInt8) (w : World) (t : TypeId) (hT : Tab w) (hr : Rd w (.slice A n c) (bytesV l)) (hr2 : Rd w (.slice A2 n2 c2) (bytesV l2)) (hr3 : Rd w (.slice A3 n3 c3) (bytesV l3)) :
    Calls Tryd.prog 10 #[.slice (some ⟨w.heap.size, 0, none⟩) 3 3] (w.alloc (.cells #[.slice A n c, .slice A2 n2 c2, .slice A3 n3 c3] t)) (U32 (crc (l ++ l2 ++ l3)) (w.alloc (.cells #[.slice A n c, .slice A2 n2 c2, .slice A3 n3 c3] t))) := by
  have h := of_any _ [.slice A n c, .slice A2 n2 c2, .slice A3 n3 c3] [l, l2, l3] _ (hT.alloc (.cells #[.slice A n c, .slice A2 n2 c2, .slice A3 n3 c3] t)) (Rd.new w [.slice A n c, .slice A2 n2 c2, .slice A3 n3 c3] t (0, 0) 3 (Nat.le_refl _) (by decide)) (Parts.cons (hr.alloc _) (Parts.cons (hr2.alloc _) (Parts.cons (hr3.alloc _) (Parts.nil _))))
  simpa using h

set_option maxHeartbeats 1000000 in
theorem sumParts_walk (A : Option Addr) (n c : Nat) (l : List UInt8) (A2 : Option Addr) (n2 c2 : Nat) (l2 : List UInt8) (A3 : Option Addr) (n3 c3 : Nat) (l3 : List UInt8) (w : World) (hT : Tab w) (hr : Rd w (.slice A n c) (bytesV l)) (hr2 : Rd w (.slice A2 n2 c2) (bytesV l2)) (hr3 : Rd w (.slice A3 n3 c3) (bytesV l3)) :
    Calls Tryd.prog 4 #[.slice A n c, .slice A2 n2 c2, .slice A3 n3 c3] w (Awake w) := by
  have HR := Lib.hid hr
  have HR2 := Lib.hid hr2
  have HR3 := Lib.hid hr3
  have HT := Lib.hid hT
  have hl := hr.len.1
  have hl2 := hr2.len.1
  have hl3 := hr3.len.1
  rw [bytesV_len] at hl hl2 hl3
  clear hr hr2 hr3 hT
  by_cases h : 1000 < n ∨ 1000 < n2 ∨ 1000 < n3
  · have HL := Lib.hid (And.intro hl (And.intro hl2 hl3))
    clear hl hl2 hl3
    rcases Nat.lt_or_ge 1000 n with h1 | h1
    · have hb : decide (1000 < (n : Int)) = true := by simp; omega
      clear h
      go_enter Tryd.func4, Tryd.ntmps4
      go_wp2_with fail
      refine (awake_any _ HT.out).mono ?_
      rintro e w1 ⟨rfl, hg1⟩
      go_wp2
      go_ret
      exact ⟨rfl, hg1⟩
    · have hb : decide (1000 < (n : Int)) = false := by simp; omega
      rcases Nat.lt_or_ge 1000 n2 with h2 | h2
      · have hb2 : decide (1000 < (n2 : Int)) = true := by simp; omega
        clear h
        go_enter Tryd.func4, Tryd.ntmps4
        go_wp2_with fail
        refine (awake_any _ HT.out).mono ?_
        rintro e w1 ⟨rfl, hg1⟩
        go_wp2
        go_ret
        exact ⟨rfl, hg1⟩
      · have hb2 : decide (1000 < (n2 : Int)) = false := by simp; omega
        have hb3 : decide (1000 < (n3 : Int)) = true := by simp; omega
        clear h
        go_enter Tryd.func4, Tryd.ntmps4
        go_wp2_with fail
        refine (awake_any _ HT.out).mono ?_
        rintro e w1 ⟨rfl, hg1⟩
        go_wp2
        go_ret
        exact ⟨rfl, hg1⟩
  · have hb : decide (1000 < (n : Int)) = false := by simp; omega
    have hb2 : decide (1000 < (n2 : Int)) = false := by simp; omega
    have hb3 : decide (1000 < (n3 : Int)) = false := by simp; omega
    have hs : n ≤ 1000 ∧ n2 ≤ 1000 ∧ n3 ≤ 1000 := by omega
    have HS := Lib.hid (And.intro hs (And.intro hl (And.intro hl2 hl3)))
    clear h hs hl hl2 hl3
    go_enter Tryd.func4, Tryd.ntmps4
    go_wp2_with (at_builtin; refine wpList_append_bytes _ rfl _ _ rfl w.heap.size _ 0 [] rfl (own_empty w _ (Nat.le_refl _)) _ l rfl (HR.out.alloc _) ?_ ?_ ?_)
    · have := HS.out; omega
    · simp
    · intro v1 w1 ho1 hg1 hat1
      have hgw1 : w.grownBy w1 none := grown_new (grown_alloc (grown_refl _ _) _) hg1 (fun b hb => by simp [Value.ownBlock] at hb; omega)
      have hrow1 : ∀ b, v1.ownBlock = some b → w.heap.size ≤ b := fun b hb => (ho1.lt b hb).1
      clear hg1 hat1
      go_wp2_with (at_builtin; refine wpList_append_bytes _ rfl _ _ rfl w.heap.size _ _ _ rfl ho1 _ l2 rfl (HR2.out.grown0 hgw1) ?_ ?_ ?_)
      · have := HS.out; omega
      · exact hgw1.size
      · intro v2 w2 ho2 hg2 hat2
        have hgw2 : w.grownBy w2 none := grown_new hgw1 hg2 hrow1
        have hrow2 : ∀ b, v2.ownBlock = some b → w.heap.size ≤ b := fun b hb => (ho2.lt b hb).1
        clear hg2 hat2 ho1 hgw1 hrow1
        go_wp2_with (at_builtin; refine wpList_append_bytes _ rfl _ _ rfl w.heap.size _ _ _ rfl ho2 _ l3 rfl (HR3.out.grown0 hgw2) ?_ ?_ ?_)
        · have := HS.out; omega
        · exact hgw2.size
        · intro v3 w3 ho3 hg3 hat3
          have hgw3 : w.grownBy w3 none := grown_new hgw2 hg3 hrow2
          have hr : Rd w3 v3 (bytesV (l ++ l2 ++ l3)) := by
            have := Rd.of_own ho3
            simpa [bytesV_app] using this
          clear hg3 hat3 ho2 hgw2 hrow2 ho3
          have HRA := Lib.hid hr
          have HT3 := Lib.hid (HT.out.grown hgw3)
          have HG3 := Lib.hid hgw3
          obtain ⟨A4, c4, rfl⟩ := hr.form
          generalize (bytesV (l ++ l2 ++ l3)).length = n4 at *
          clear hr hgw3
          have h1 : Rd w3 (.slice A n c) (bytesV l) := HR.out.grown0 HG3.out
          have h2 : Rd w3 (.slice A2 n2 c2) (bytesV l2) := HR2.out.grown0 HG3.out
          have h3 : Rd w3 (.slice A3 n3 c3) (bytesV l3) := HR3.out.grown0 HG3.out
          have HA := of_three A n c l A2 n2 c2 l2 A3 n3 c3 l3 w3 22 HT3.out h1 h2 h3
          have HB := fun (o : Obj) => of_two A n c l A2 n2 c2 l2 (w3.alloc o) 22 (HT3.out.alloc o) (h1.alloc o) (h2.alloc o)
          have HC := fun (o o2 : Obj) => update_any (crc (l ++ l2)) _ l3 ((w3.alloc o).alloc o2) ((HT3.out.alloc o).alloc o2) ((h3.alloc o).alloc o2)
          have HD := fun (o o2 : Obj) => update_any 0#32 _ (l ++ l2 ++ l3) ((w3.alloc o).alloc o2) ((HT3.out.alloc o).alloc o2) ((HRA.out.alloc o).alloc o2)
          have HE := refOf_any _ (l ++ l2 ++ l3) w3 HRA.out
          have hz : (0#32 : BitVec 32) = crc [] := crc_nil.symm
          simp only [crc_more] at HC
          rw [hz] at HD
          simp only [crc_more, List.nil_append] at HD
          rw [crc_nil] at HD
          have esz : ∀ o : Obj, (w3.alloc o).heap.size = w3.heap.size + 1 := fun o => by simp
          simp only [esz] at HB
          clear esz
          have HA' := Lib.hid HA
          have HB' := Lib.hid HB
          have HC' := Lib.hid HC
          have HD' := Lib.hid HD
          have HE' := Lib.hid HE
          clear HA HB HC HD HE h1 h2 h3 hz
          generalize crc (l ++ l2 ++ l3) = X at *
          generalize crc (l ++ l2) = Y at *
          go_wp2_with fail
          refine HE'.out.mono ?_
          rintro e w1 ⟨rfl, rfl⟩
          go_wp2_with fail
          refine HA'.out.mono ?_
          rintro e w1 ⟨rfl, rfl⟩
          go_wp2_with fail
          refine (HB'.out _).mono ?_
          rintro e w1 ⟨rfl, rfl⟩
          go_wp2_with fail
          refine (HC'.out _ _).mono ?_
          rintro e w1 ⟨rfl, rfl⟩
          go_wp2_with fail
          refine (HD'.out _ _).mono ?_
          rintro e w1 ⟨rfl, rfl⟩
          go_wp2_with fail
          refine (awake_any _ ((HT3.out.alloc _).alloc _)).mono ?_
          rintro e w1 ⟨rfl, hg1⟩
          go_wp2
          go_ret
          exact ⟨rfl, (grown_alloc (grown_alloc HG3.out _) _).trans hg1⟩
end Go.Proofs.YtmpelcgmfdggfaaDoor
