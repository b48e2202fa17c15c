/-
  aead.tagged's put over this program: bytes, and noughts up to a multiple of sixteen, onto what lies in its box.
-/
import Derived.Test.YtjcbdplbekecjaaAe
import Derived.Test.YtjcbdplbekecjaaAppBytes
import Derived.Test.YtjcbdplbekecjaaCommon
import Derived.Test.YtjcbdplbekecjaaOwnKeep
namespace Go.Proofs.Ytjcbdplbekecjaa
open Go.RowKit

/-- The box ga holds a row of the call's own that reads as l. -/
def Put (w0 : World) (ga : Nat) (l : List UInt8) (W : World) : Prop :=
  ∃ A c, Row W ga 24 [.slice A l.length c] ∧ W.ownsRow (ga + 1) 5 1 (.slice A l.length c) l.length (bytesV l) ∧ w0.grownBy W none
def PutAt (w0 : World) (ga : Nat) (l : List UInt8) (e : Ending) (W : World) : Prop := e = .returned (.tuple #[]) ∧ Put w0 ga l W

/-- How many noughts are missing. -/
def missing (ga : Nat) (W : World) : Nat := match W.cell? ⟨ga, 0, none⟩ with | some (.slice _ n _) => (16 - n % 16) % 16 | _ => 0

theorem own_lower {w : World} {base base' n : Nat} {e : TypeId} {v : Value} {xs : List Value} (h : w.ownsRow base e 1 v n xs) (hb : base' ≤ base) : w.ownsRow base' e 1 v n xs := by
  obtain ⟨h1, h2⟩ := h
  refine ⟨h1, ?_⟩
  rcases h2 with h2 | ⟨g, cap, cur, e1, e2, e3⟩
  · exact .inl h2
  · exact .inr ⟨g, cap, cur, e1, by omega, e3⟩
theorem Put.step {w0 W W' : World} {ga : Nat} (hga : w0.heap.size ≤ ga) {v : Value} {A : Option Addr} {c n : Nat} {l m : List UInt8} (hr : Row W ga 24 [.slice A n c]) (ho : W.ownsRow (ga + 1) 5 1 (.slice A n c) l.length (bytesV l)) (hg : w0.grownBy W none)
    (ho' : W'.ownsRow (ga + 1) 5 1 v (l.length + m.length) (bytesV l ++ bytesV m)) (hg' : W.grownBy W' (Value.slice A n c).ownBlock) : Put w0 ga (l ++ m) (W'.setCell ⟨ga, 0, none⟩ v) := by
  have hr' : Row W' ga 24 [.slice A n c] := hr.grown hg' (by intro e; have := (ho.lt ga e.symm).1; omega)
  obtain ⟨A', c', hv⟩ : ∃ A' c', v = .slice A' (l ++ m).length c' := by
    have := (Rd.of_own ho').form
    rw [← bytesV_app, bytesV_len] at this
    exact this
  rw [← bytesV_app, ← List.length_append] at ho'
  subst hv
  refine ⟨A', c', hr'.set 0 _, ?_, ?_⟩
  · exact ho'.kept (grown_set W' ga 0 _) (.inr fun e => by have := (ho'.lt ga e).1; omega)
  · refine grown_own (grown_new hg hg' fun b hb => by have := (ho.lt b hb).1; omega) (grown_set W' ga 0 _) hga

set_option maxHeartbeats 1000000 in
theorem put_any (w0 : World) (ga : Nat) (hga : w0.heap.size ≤ ga) (l m : List UInt8) (u : Value) (w : World) (hp : Put w0 ga l w) (hr : Rd w u (bytesV m)) (hb : l.length + m.length ≤ 500000000000) :
    Calls Try.prog 47 #[u, .pointer (some ⟨ga, 0, none⟩)] w (PutAt w0 ga (upB (l ++ m))) := by
  obtain ⟨A, c, hrow, hown, hgr⟩ := hp
  have hc := hrow.cell (j := 0) rfl
  have hf := hrow.frozen 0
  have HROW := Lib.hid hrow
  have HR := Lib.hid hr
  have HGA := Lib.hid hga
  have HGR := Lib.hid hgr
  have HB := Lib.hid hb
  clear hr hga hgr hrow hb
  go_enter Try.func47, Try.ntmps47
  go_wp2_with (at_builtin; refine wpList_append_bytes _ rfl _ _ rfl (ga + 1) _ l.length _ rfl hown _ m rfl HR.out (by have := HB.out; omega) HROW.out.lt ?_)
  intro v' w1 ho1 hg1 hat
  obtain ⟨A1, c1, rfl⟩ := own_form ho1
  have hp1 := Put.step HGA.out HROW.out hown HGR.out ho1 hg1
  have hrow1 : Row w1 ga 24 [.slice A l.length c] := HROW.out.grown hg1 (by intro e; have := (hown.lt ga e.symm).1; omega)
  have hc1 := hrow1.cell (j := 0) rfl
  have hf1 := hrow1.frozen 0
  have HP1 := Lib.hid hp1
  clear hp1 hrow1 ho1 hg1 hat hown hc hf
  go_wp2
  go_loopw [] (fun W => ∃ b : List UInt8, Put w0 ga b W ∧ upB b = upB (l ++ m) ∧ b.length ≤ 500000000000 + 16) (missing ga)
  case atStart => exact ⟨l ++ m, HP1.out, rfl, by have := HB.out; rw [List.length_append]; omega⟩
  case round =>
    obtain ⟨b, ⟨A2, c2, hrow2, hown2, hgr2⟩, hup, hbl⟩ := hrel
    have hc2 := hrow2.cell (j := 0) rfl
    have hf2 := hrow2.frozen 0
    have HROW2 := Lib.hid hrow2
    have HUP := Lib.hid hup
    have HGR2 := Lib.hid hgr2
    clear hrow2 hup hgr2
    by_cases h16 : b.length % 16 = 0
    · have hb0 : ((b.length : Int) % 16 != 0) = false := by simp; omega
      have H16 := Lib.hid h16
      clear h16
      go_wp2
      refine bodyPost_end (results_none rfl _ _ _) rfl ?_
      rw [← HUP.out, upB_done b H16.out]
      exact ⟨rfl, A2, c2, HROW2.out, hown2, HGR2.out⟩
    · have hb0 : ((b.length : Int) % 16 != 0) = true := by simp; omega
      have H16 := Lib.hid h16
      have hga2 : ga < wr.heap.size := HROW2.out.lt
      have hga : wr.grownBy (wr.alloc (.cells #[.int .u8 0] 5)) none := grown_alloc (grown_refl _ _) _
      have hrd : Rd (wr.alloc (.cells #[.int .u8 0] 5)) (.slice (some ⟨wr.heap.size, 0, none⟩) 1 1) (bytesV [0]) := Rd.one wr (byteV 0) 5
      have hown3 : (wr.alloc (.cells #[.int .u8 0] 5)).ownsRow (ga + 1) 5 1 (.slice A2 b.length c2) b.length (bytesV b) := own_keepN hown2 hga
      have hrow3 := HROW2.out.grown0 hga
      have HALL := Lib.hid (And.intro hrd (And.intro hown3 (And.intro hrow3 (And.intro (HGR2.out.trans hga) (show ga + 1 ≤ (wr.alloc (.cells #[.int .u8 0] 5)).heap.size by simp; omega)))))
      clear h16 hga hrd hown3 hrow3 hown2
      go_wp2_with (at_builtin; refine wpList_append_bytes _ rfl _ _ rfl (ga + 1) _ b.length _ rfl HALL.out.2.1 _ [0] rfl HALL.out.1 (by simp; omega) HALL.out.2.2.2.2 ?_)
      intro v' w3 ho3 hg3 hat
      obtain ⟨A3, c3, rfl⟩ := own_form ho3
      have hp3 := Put.step HGA.out HALL.out.2.2.1 HALL.out.2.1 HALL.out.2.2.2.1 ho3 hg3
      have hrow4 : Row w3 ga 24 [.slice A2 b.length c2] := HALL.out.2.2.1.grown hg3 (by intro e; have := (HALL.out.2.1.lt ga e.symm).1; omega)
      have hc4 := hrow4.cell (j := 0) rfl
      have hf4 := hrow4.frozen 0
      have hm4 := (hrow4.set 0 (.slice A3 (b.length + 1) c3)).cell (j := 0) rfl
      have HM4 := Lib.hid hm4
      have HC2 := Lib.hid hc2
      have HP3 := Lib.hid hp3
      clear hp3 hrow4 ho3 hg3 hat hm4
      go_wp2
      go_roundw
      case rel => exact ⟨b ++ [0], HP3.out, by rw [upB_more b H16.out]; exact HUP.out, by have := H16.out; rw [List.length_append, List.length_singleton]; omega⟩
      case measure =>
        have h := H16.out
        unfold missing
        rw [HC2.out]
        erw [HM4.out]
        simp only
        omega
end Go.Proofs.Ytjcbdplbekecjaa
