/-
  The laws' awake over this program: what the document fixes of two files.
-/
import Derived.Test.YtiakkfcjdmecdaaDoorEnTotalP
import Derived.Test.YtiakkfcjdmecdaaDoorBytConst
namespace Go.Proofs.YtiakkfcjdmecdaaDoor
set_option maxRecDepth 1000000
open Go.RowKit

def awF : List Fl := [⟨[97], 1, 0, 0, [97, 98, 99], []⟩, ⟨[98], 1, 0, 0, [100, 101], []⟩]
theorem aw_row (W : World) (H : Nat) (h : Row W (H + 1 + 1) 52 [.string ⟨#[97]⟩, .int .i64 1, .int .i64 0, .int .i64 0, .slice (some ⟨H, 0, none⟩) 3 3, .string ⟨#[]⟩, .string ⟨#[98]⟩, .int .i64 1, .int .i64 0, .int .i64 0, .slice (some ⟨H + 1, 0, none⟩) 2 2, .string ⟨#[]⟩])
    (h1 : Rd W (.slice (some ⟨H, 0, none⟩) 3 3) (bytesV [97, 98, 99])) (h2 : Rd W (.slice (some ⟨H + 1, 0, none⟩) 2 2) (bytesV [100, 101])) : RdF W (.slice (some ⟨H + 1 + 1, 0, none⟩) 2 2) awF := by
  refine ⟨some ⟨H + 1 + 1, 0, none⟩, 2, rfl, by decide, by decide, fun _ => ⟨_, rfl, fun j d hd => ?_⟩⟩
  rcases j with _ | _ | j
  · obtain rfl := Option.some.inj hd
    refine ⟨_, h1, fun i x hx => ?_⟩
    rcases i with _ | _ | _ | _ | _ | _ | i <;> first | (obtain rfl := Option.some.inj hx; exact h.cell rfl) | (simp [flC] at hx)
  · obtain rfl := Option.some.inj hd
    refine ⟨_, h2, fun i x hx => ?_⟩
    rcases i with _ | _ | _ | _ | _ | _ | i <;> first | (obtain rfl := Option.some.inj hx; exact h.cell rfl) | (simp [flC] at hx)
  · simp [awF] at hd
def awE : List En := [⟨[97], 1, 0, 0, [], 0, 3⟩, ⟨[98], 1, 0, 0, [], 3, 2⟩]
set_option maxHeartbeats 4000000 in
theorem has_awake : HasAwake := by
  intro w
  have hfew : FewF awF := ⟨by decide, by decide⟩
  have hwhy : whyE (toldF 0 awF) = 0 := by kernel_rfl
  have HO := Lib.hid (fun v W h => of_any v awF W h hfew)
  generalize hH : w.heap.size = H at *
  have k1 := const_at w H hH #[.int .u8 97, .int .u8 98, .int .u8 99] 3 3
  have k2 := const_at (w.alloc (.cells #[.int .u8 97, .int .u8 98, .int .u8 99] 5 (3, 4))) (H + 1) (by simp [hH]) #[.int .u8 100, .int .u8 101] 2 2
  simp only [List.size_toArray, List.length_cons, List.length_nil, Nat.zero_add, Nat.reduceAdd] at k1 k2
  have HRD := Lib.hid (aw_row _ H (Row.newAt ((w.alloc (.cells #[.int .u8 97, .int .u8 98, .int .u8 99] 5 (3, 4))).alloc (.cells #[.int .u8 100, .int .u8 101] 5 (2, 3))) 52 _ (by simp [hH]))
    (((Rd.const w H hH [97, 98, 99] (3, 4) 3 rfl (by decide)).grown0 (grown_alloc (grown_refl _ none) (.cells #[.int .u8 100, .int .u8 101] 5 (2, 3)))).grown0 (grown_alloc (grown_refl _ none) _))
    ((Rd.const (w.alloc (.cells #[.int .u8 97, .int .u8 98, .int .u8 99] 5 (3, 4))) (H + 1) (by simp [hH]) [100, 101] (2, 3) 2 rfl (by decide)).grown0 (grown_alloc (grown_refl _ none) _)))
  have HT := Lib.hid (fun u W (h : RdE W u awE) => total_any u 300 awE W h (show ∀ e ∈ awE, e.path.length ≤ 300 ∧ e.to.length ≤ 300 by decide) (by decide) (by decide))
  have HF := Lib.hid (fun u W (h : RdE W u awE) => fine_any u 300 awE W h (show ∀ e ∈ awE, e.path.length ≤ 300 ∧ e.to.length ≤ 300 by decide) (by decide))
  rw [show totalE awE = 5 by kernel_rfl] at HT
  rw [show fineE awE = true by kernel_rfl] at HF
  go_enter Tryd.func12, Tryd.ntmps12
  go_wp2_with fail
  refine (HO.out _ _ HRD.out).mono ?_
  rintro e1 w1 ⟨u, rfl, hg, hu⟩
  rw [hwhy] at hu ⊢
  rw [if_pos rfl, show toldF 0 awF = awE from rfl] at hu
  obtain ⟨A1, c1, rfl⟩ := hu.form
  obtain ⟨ad, rfl, _, _, _, _, _, q5, q6⟩ := hu.step (k := 1) (by decide)
  have HU := Lib.hid hu
  have HG := Lib.hid ((grown_alloc (grown_alloc (grown_alloc (grown_refl w none) _) _) _).trans hg)
  clear hu hg HO HRD k1 k2 hwhy hfew
  rw [show awE.length = 2 from rfl] at *
  have e7 : ad.add (1 * 7) = ⟨ad.block, ad.off + 7, none⟩ := by unfold Addr.add; simp
  rw [e7] at q5 q6
  have q5 : w1.cell? ⟨ad.block, ad.off + 7 + 5, none⟩ = some (.int .i64 3) := q5
  have q6 : w1.cell? ⟨ad.block, ad.off + 7 + 6, none⟩ = some (.int .i64 2) := q6
  go_wp2_with fail
  refine (HT.out _ _ HU.out).mono ?_
  rintro e2 w2 ⟨rfl, hg2⟩
  have HG2 := Lib.hid (HG.out.trans hg2)
  have HU2 := Lib.hid (HU.out.grown0 hg2)
  clear hg2 HG HU HT
  go_wp2_with fail
  refine (HF.out _ _ HU2.out).mono ?_
  rintro e3 w3 ⟨rfl, hg3⟩
  have HG3 := Lib.hid (HG2.out.trans hg3)
  clear hg3 HG2 HF
  go_wp2
  go_ret
  exact ⟨rfl, HG3.out⟩
end Go.Proofs.YtiakkfcjdmecdaaDoor
