/-
  The law CoderNobody, walked.
-/
import Derived.Test.YtlmdjkahbejcdaaCodNil
namespace Go.Proofs.Ytlmdjkahbejcdaa
open Go.RowKit

set_option maxHeartbeats 4000000 in
theorem coderNobody_walk (n q : Int) (w : World) : Calls Try.prog 7 #[.int .i64 n, .int .i64 q] w (Awake w) := by
  obtain ⟨gc, hgc⟩ : ∃ gc, w.heap.size = gc := ⟨_, rfl⟩
  obtain ⟨W0, hW0⟩ : ∃ W, w.alloc (.cells #[.int .i16 0] 40) = W := ⟨_, rfl⟩
  have C0 := Lib.hid (show Row W0 gc _ (chV [1024]) by rw [← hW0]; exact box_first hgc)
  have G0 := Lib.hid (show w.grownBy W0 none by rw [← hW0]; exact grown_alloc (grown_refl _ _) _)
  have HT := Lib.hid (noTree_none q)
  go_enter Try.func7, Try.ntmps7
  go_wp2_with fail
  clear hgc hW0
  refine (bit_nil _ n W0).mono ?_
  rintro e w1 ⟨rfl, hw1⟩
  obtain rfl := hw1.symm
  go_wp2_with fail
  refine (even_nil n 3 W0).mono ?_
  rintro e w1 ⟨rfl, hw1⟩
  obtain rfl := hw1.symm
  go_wp2_with fail
  refine (tree_not none none 0 0 n q HT.out W0).mono ?_
  rintro e w1 ⟨rfl, hw1⟩
  obtain rfl := hw1.symm
  go_wp2_with fail
  refine (begin_any W0).mono ?_
  rintro e w1 ⟨g1, rfl, ht1, hge1, hg1⟩
  have T1 := Lib.hid ht1
  have C1 := Lib.hid (C0.out.grown0 hg1)
  have G1 := Lib.hid (G0.out.trans hg1)
  have HG1 := Lib.hid (Nat.le_trans G0.out.size hge1)
  clear ht1 hge1 hg1 C0 G0
  go_wp2_with fail
  refine (bit_none _ n w1).mono ?_
  rintro e w2 ⟨rfl, hw1⟩
  obtain rfl := hw1.symm
  go_wp2_with fail
  refine (chances_any 1 1 (by decide) w1).mono ?_
  rintro e w2 ⟨g2, t2, rfl, _, _, hg2⟩
  have T2 := Lib.hid (T1.out.grown0 hg2)
  have C2 := Lib.hid (C1.out.grown0 hg2)
  have G2 := Lib.hid (G1.out.trans hg2)
  clear hg2 T1 C1 G1
  go_wp2_with fail
  refine (tree_not _ _ 1 1 n 1 (.inr (.inr ⟨1, rfl, by decide, by decide⟩)) w2).mono ?_
  rintro e w3 ⟨rfl, hw1⟩
  obtain rfl := hw1.symm
  go_wp2_with fail
  refine (chances_any (-1) 0 (by decide) w2).mono ?_
  rintro e w3 ⟨g3, t3, rfl, _, _, hg3⟩
  have T3 := Lib.hid (T2.out.grown0 hg3)
  have C3 := C2.out.grown0 hg3
  have G3 := Lib.hid (G2.out.trans hg3)
  have hc3 : w3.cell? ⟨gc, 0, none⟩ = some (.int .i16 0) := C3.cell (j := 0) rfl
  have HOF := Lib.hid (show Calls Try.prog 20 #[.agg #[.int .i16 0]] w3 (Val (.int .i64 1024) w3) from of_any 1024 (by decide) w3)
  clear hg3 T2 C2 G2 C3
  go_wp2_with fail
  refine (tree_not _ _ 0 0 n 2 (.inr (.inr ⟨2, rfl, by decide, by decide⟩)) w3).mono ?_
  rintro e w4 ⟨rfl, hw1⟩
  obtain rfl := hw1.symm
  go_wp2_with fail
  refine (end_nil w3).mono ?_
  rintro e w4 ⟨rfl, hw1⟩
  obtain rfl := hw1.symm
  go_wp2_with fail
  refine HOF.out.mono ?_
  rintro e w4 ⟨rfl, hg4⟩
  have T4 := Lib.hid (T3.out.grown0 hg4)
  have G4 := Lib.hid (G3.out.trans hg4)
  clear hg4 T3 G3 hc3 HOF
  go_wp2_with fail
  refine (rbit_nil _ w4).mono ?_
  rintro e w5 ⟨rfl, hw1⟩
  obtain rfl := hw1.symm
  go_wp2_with fail
  refine (reven_nil q w4).mono ?_
  rintro e w5 ⟨rfl, hw1⟩
  obtain rfl := hw1.symm
  go_wp2_with fail
  refine (rtree_not none none 0 0 q HT.out w4).mono ?_
  rintro e w5 ⟨rfl, hw1⟩
  obtain rfl := hw1.symm
  go_wp2_with fail
  refine (err_nil w4).mono ?_
  rintro e w5 ⟨rfl, hw1⟩
  obtain rfl := hw1.symm
  go_wp2_with fail
  refine (left_nil w4).mono ?_
  rintro e w5 ⟨rfl, hw1⟩
  obtain rfl := hw1.symm
  go_wp2_with fail
  have HE := Lib.hid (end_at g1 none beginS w4 T4.out begin_ok (by decide))
  rw [end_none] at HE
  refine HE.out.mono ?_
  rintro e w5 ⟨u5, rfl, ho5, vb5, _, hn5⟩
  obtain ⟨A5, c5, rfl⟩ := own_form ho5
  have G5 := Lib.hid (Wn.new G4.out hn5 (fun b hb => by rw [List.mem_singleton.1 hb]; exact HG1.out) (fun b hb => by cases hb))
  have hstr : (convert 28 9 (.slice A5 4 c5)).run Try.prog w5 = .ok (.string ⟨#[0, 0, 0, 0]⟩) w5 := run_str (Rd.of_own ho5)
  clear ho5 hn5 HE T4 G4
  go_wp2_with fail
  refine (awake_any w5).mono ?_
  rintro e w6 ⟨rfl, hg6⟩
  have G6 := Lib.hid (G5.out.trans hg6)
  clear hg6 hstr
  go_wp2
  go_ret
  exact ⟨rfl, G6.out⟩
end Go.Proofs.Ytlmdjkahbejcdaa
