/-
  Layer 10's awake: what the document fixes of no bits, and of one.
-/
import Derived.Test.YtohndlfekecfoaaCodRr
import Derived.Test.YtohndlfekecfoaaBytOps
namespace Go.Proofs.Ytohndlfekecfoaa
set_option maxRecDepth 1000000
open Go.RowKit

def Awake (w : World) (e : Ending) (w' : World) : Prop := e = .returned (.bool true) ∧ w.grownBy w' none

/-- A zero Chance in a box. -/
theorem box_first {w : World} {g : Nat} (h : w.heap.size = g) : Row (w.alloc (.cells #[.int .i16 0] 40)) g 40 (chV [1024]) := Row.newAt w _ (chV [1024]) h
theorem okl_one : Okl [1024] := okl_first 1
theorem bit_first : bitS beginS [1024] 0 true = (⟨[], 2147482624, 2147484671⟩, [992]) := by kernel_rfl
theorem end_first : endS ⟨[], 2147482624, 2147484671⟩ = [127, 255, 252, 0] := by kernel_rfl
theorem end_none : endS beginS = [0, 0, 0, 0] := by kernel_rfl
theorem open_first : openN 4 [127, 255, 252, 0] = ⟨[], 2147482624, 4294967295, false⟩ := by kernel_rfl
theorem rbit_first : bitR ⟨[], 2147482624, 4294967295, false⟩ [1024] 0 = (true, ⟨[], 0, 2147484671, false⟩, [992]) := by kernel_rfl

set_option maxHeartbeats 4000000 in
theorem awake_any (w : World) : Calls Try.prog 4 #[] w (Awake w) := by
  go_enter Try.func4, Try.ntmps4
  go_wp2_with fail
  refine (begin_any w).mono ?_
  rintro e w1 ⟨g1, rfl, ht1, hge1, hg1⟩
  obtain ⟨gc, hgc⟩ : ∃ gc, w1.heap.size = gc := ⟨_, rfl⟩
  have HS1 := Lib.hid (show w.heap.size ≤ g1 ∧ g1 < gc ∧ w.heap.size ≤ gc from ⟨hge1, by rw [← hgc]; exact ht1.lt, by rw [← hgc]; exact hg1.size⟩)
  obtain ⟨W2, hW2⟩ : ∃ W, w1.alloc (.cells #[.int .i16 0] 40) = W := ⟨_, rfl⟩
  have T2 := Lib.hid (show Wt W2 g1 none beginS by rw [← hW2]; exact ht1.grown0 (grown_alloc (grown_refl _ _) _))
  have C2 := Lib.hid (show Row W2 gc _ (chV [1024]) by rw [← hW2]; exact box_first hgc)
  have G2 := Lib.hid (show w.grownBy W2 none by rw [← hW2]; exact grown_alloc hg1 _)
  clear ht1 hge1 hg1
  go_wp2_with fail
  clear hW2 hgc
  refine (begin_any W2).mono ?_
  rintro e w3 ⟨g3, rfl, ht3, hge3, hg3⟩
  have HS3 := Lib.hid (show gc < g3 from Nat.lt_of_lt_of_le C2.out.lt hge3)
  have T3 := Lib.hid (T2.out.grown0 hg3)
  have C3 := Lib.hid (C2.out.grown0 hg3)
  have G3 := Lib.hid (G2.out.trans hg3)
  have HG3 := Lib.hid (show w.heap.size ≤ g3 from Nat.le_trans G2.out.size hge3)
  have HE3 := Lib.hid (end_at g3 none beginS w3 ht3 begin_ok (by decide))
  rw [end_none] at HE3
  clear ht3 hge3 hg3 T2 C2 G2
  go_wp2_with fail
  refine HE3.out.mono ?_
  rintro e w4 ⟨u, rfl, ho4, vb4, ht4, hn4⟩
  obtain ⟨A4, c4, rfl⟩ := own_form ho4
  have D4 := Lib.hid (And.intro (Rd.of_own ho4) (fun k hk => ho4.lt k hk))
  have hs1 := HS1.out
  have hs3 := HS3.out
  have T4 := Lib.hid (T3.out.wn hn4 ⟨by simp; omega, by simp⟩ (fun b hb => by cases hb))
  have C4 := Lib.hid (C3.out.wn hn4 (by simp; omega) (by simp))
  have G4 := Lib.hid (Wn.new G3.out hn4 (fun b hb => by rw [List.mem_singleton.1 hb]; exact HG3.out) (fun b hb => by cases hb))
  have HB4 := Lib.hid (bit_at g1 none beginS gc 0 _ [1024] 1 w4 T4.out begin_ok (by decide) C4.out (by decide) okl_one ⟨by omega, by simp⟩)
  rw [show decide ((1 : Int) ≠ 0) = true from rfl, bit_first] at HB4
  have H43 := Lib.hid (show gc < w3.heap.size from C3.out.lt)
  clear ho4 ht4 hn4 T3 C3 G3 HE3 hs1 hs3
  go_wp2_with fail
  refine HB4.out.mono ?_
  rintro e w5 ⟨rfl, vb5, ht5, hr5, hn5⟩
  have hs1 := HS1.out
  have h43 := H43.out
  have D5 := Lib.hid (D4.out.1.wn hn5 (fun b hb => ⟨by have := (D4.out.2 b hb).1; simp; omega, by simp⟩))
  have C5 := Lib.hid hr5
  have G5 := Lib.hid (Wn.new G4.out hn5 (fun b hb => by simp at hb; omega) (fun b hb => by cases hb))
  have HE5 := Lib.hid (end_at g1 vb5 _ w5 ht5 ⟨by decide, by decide, by decide⟩ (by decide))
  rw [end_first] at HE5
  have HV5 := Lib.hid hn5.row
  have H54 := Lib.hid (show ∀ b, (Value.slice A4 4 c4).ownBlock = some b → b ≠ g1 ∧ some b ≠ vb5 from fun b hb => by
    have hb2 := D4.out.2 b hb
    refine ⟨by omega, ?_⟩
    rcases HV5.out with e | ⟨k, e, hk⟩
    · rw [e]; simp
    · rw [e]; intro e2; cases e2; omega)
  have H55 := Lib.hid (show w.heap.size ≤ g1 ∧ (∀ b, vb5 = some b → w.heap.size ≤ b) ∧ some gc ≠ vb5 from ⟨HS1.out.1, fun b hb => by
    rcases HV5.out with e | ⟨k, e, hk⟩
    · rw [e] at hb; cases hb
    · rw [e] at hb; cases hb; exact Nat.le_trans G4.out.size hk, by
    have := C4.out.lt
    rcases HV5.out with e | ⟨k, e, hk⟩
    · rw [e]; simp
    · rw [e]; intro e2; cases e2; omega⟩)
  clear ht5 hr5 hn5 D4 C4 G4 HB4 hs1 h43
  go_wp2_with fail
  refine HE5.out.mono ?_
  rintro e w6 ⟨u6, rfl, ho6, vb6, ht6, hn6⟩
  obtain ⟨A6, c6, rfl⟩ := own_form ho6
  have D6 := Lib.hid (D5.out.wn hn6 (fun b hb => ⟨by have := (H54.out b hb).1; simpa using this, (H54.out b hb).2⟩))
  have C6 := Lib.hid (C5.out.wn hn6 (by have := HS1.out; simp; omega) H55.out.2.2)
  have G6 := Lib.hid (Wn.new G5.out hn6 (fun b hb => by rw [List.mem_singleton.1 hb]; exact H55.out.1) H55.out.2.1)
  have HO6 := Lib.hid (open_any _ [127, 255, 252, 0] w6 (Rd.of_own ho6) (by decide))
  clear ho6 ht6 hn6 D5 C5 G5 HE5 HV5
  go_wp2_with fail
  refine HO6.out.mono ?_
  rintro e w7 ⟨gr, vbr, rfl, hrs7, hge7, hvb7, hg7⟩
  rw [open_first] at hrs7
  obtain ⟨gd, hgd⟩ : ∃ gd, w7.heap.size = gd := ⟨_, rfl⟩
  obtain ⟨W8, hW8⟩ : ∃ W, w7.alloc (.cells #[.int .i16 0] 40) = W := ⟨_, rfl⟩
  have hg8 : w6.grownBy W8 none := by rw [← hW8]; exact grown_alloc hg7 _
  have hstr : (convert 28 9 (.slice A4 4 c4)).run Try.prog W8 = .ok (.string ⟨#[0, 0, 0, 0]⟩) W8 := run_str (D6.out.grown0 hg8)
  have C8 := Lib.hid (C6.out.grown0 hg8)
  have hc8 : W8.cell? ⟨gc, 0, none⟩ = some (.int .i16 (-32)) := C8.out.cell (j := 0) rfl
  have R8 := Lib.hid (show Rs W8 gr vbr _ by rw [← hW8]; exact hrs7.grown0 (grown_alloc (grown_refl _ _) _))
  have B8 := Lib.hid (show Row W8 gd _ (chV [1024]) by rw [← hW8]; exact box_first hgd)
  have G8 := Lib.hid (G6.out.trans hg8)
  have HN8 := Lib.hid (show gd ≠ gr ∧ vbr ≠ some gd ∧ w.heap.size ≤ gr ∧ w.heap.size ≤ gd from by
    refine ⟨fun e => ?_, fun e => ?_, Nat.le_trans G6.out.size hge7, ?_⟩
    · have := hrs7.lt; omega
    · have := (hvb7 gd e).2
      omega
    · rw [← hgd]; exact Nat.le_trans G6.out.size hg7.size)
  have HOF := Lib.hid (show Calls Try.prog 14 #[.agg #[.int .i16 (-32)]] W8 (Val (.int .i64 992) W8) from of_any 992 (by decide) W8)
  clear hrs7 hge7 hvb7 hg7 hg8 D6 C6 G6 HO6
  go_wp2_with fail
  clear hW8 hgd
  refine HOF.out.mono ?_
  rintro e w9 ⟨rfl, hg9⟩
  have R9 := R8.out.grown0 hg9
  have B9 := B8.out.grown0 hg9
  have HRB := Lib.hid (rbit_at gr vbr _ gd 0 _ [1024] w9 R9 ⟨by decide, by decide, by decide⟩ B9 (by decide) okl_one ⟨HN8.out.1, HN8.out.2.1⟩)
  rw [rbit_first] at HRB
  have G9 := Lib.hid (G8.out.trans hg9)
  clear R9 B9 hg9 hstr hc8 R8 B8 G8 C8 HOF
  go_wp2_with fail
  refine HRB.out.mono ?_
  rintro e w10 ⟨rfl, hr10, hb10, hn10⟩
  have hc10 : w10.cell? ⟨gd, 0, none⟩ = some (.int .i16 (-32)) := hb10.cell (j := 0) rfl
  have HOF := Lib.hid (show Calls Try.prog 14 #[.agg #[.int .i16 (-32)]] w10 (Val (.int .i64 992) w10) from of_any 992 (by decide) w10)
  have R10 := Lib.hid hr10
  have G10 := Lib.hid (Wn.new G9.out hn10 (fun b hb => by have := HN8.out; simp at hb; omega) (fun b hb => by cases hb))
  clear hr10 hb10 hn10 HRB
  go_wp2_with fail
  refine HOF.out.mono ?_
  rintro e w11 ⟨rfl, hg11⟩
  have HER := Lib.hid (err_at gr vbr _ w11 (R10.out.grown0 hg11) (by decide))
  have HLF := Lib.hid (left_at gr vbr _ w11 (R10.out.grown0 hg11))
  have G11 := Lib.hid (G10.out.trans hg11)
  clear hg11 hc10 R10
  go_wp2_with fail
  refine HER.out.mono ?_
  rintro e w12 ⟨rfl, hw12⟩
  obtain rfl := hw12.symm
  go_wp2_with fail
  refine HLF.out.mono ?_
  rintro e w12 ⟨rfl, hw12⟩
  obtain rfl := hw12.symm
  have HCH := Lib.hid (chances_any 3 3 (by decide) w11)
  go_wp2_with fail
  refine HCH.out.mono ?_
  rintro e w13 ⟨g13, t13, rfl, _, _, hg13⟩
  have G13 := Lib.hid (G11.out.trans hg13)
  clear hg13
  go_wp2
  go_ret
  exact ⟨rfl, G13.out⟩
end Go.Proofs.Ytohndlfekecfoaa
