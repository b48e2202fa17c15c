/-
  awake, over this program: what the document fixes of a text that is sealed.
-/
import Derived.Test.YtjcbdplbekecjaaAeOpen
import Derived.Test.YtjcbdplbekecjaaBytOps
import Derived.Test.YtjcbdplbekecjaaBytConst
namespace Go.Proofs.Ytjcbdplbekecjaa
open Go.RowKit

def Awake (w : World) (e : Ending) (w' : World) : Prop := e = .returned (.bool true) ∧ w.grownBy w' none

/-- What was sealed is opened. -/
theorem OpenOut.sealed {key nonce h t : List UInt8} {w w' : World} {e : Ending} (hO : OpenOut key nonce h (sealB key nonce h t) w e w') : ∃ v, e = .returned (.tuple #[v, .int .i64 0]) ∧ w.grownBy w' none ∧ IsX t v w' := by
  have hl := sealB_len key nonce h t
  have e1 : (sealB key nonce h t).length - 16 = t.length := by omega
  obtain ⟨hg, h0 | ⟨_, h1, _⟩ | ⟨_, _, v, he, hx⟩⟩ := hO
  · omega
  · rw [e1, sealB_take, sealB_drop] at h1
    exact absurd rfl h1
  · rw [e1, sealB_take, xs_xs] at hx
    exact ⟨v, he, hg, hx⟩
theorem OutO.form {w w' : World} {l : List UInt8} {e : Ending} (h : OutO w l e w') : ∃ A c, e = .returned (.slice A l.length c) ∧ w'.ownsRow w.heap.size 5 1 (.slice A l.length c) l.length (bytesV l) ∧ w.grownBy w' none := by
  obtain ⟨v, he, ho, hg⟩ := h
  obtain ⟨A, c, rfl⟩ := own_form ho
  exact ⟨A, c, he, ho, hg⟩

def kA : List UInt8 := 1 :: List.replicate 31 0
def nA : List UInt8 := 2 :: List.replicate 11 0
def hA : List UInt8 := [104]
def tA : List UInt8 := [116, 101, 120, 116]

set_option maxHeartbeats 4000000 in
set_option maxRecDepth 100000 in
theorem awake_any (w : World) : Calls Try.prog 8 #[] w (Awake w) := by
  have HS := Lib.hid (fun (v1 v2 : Value) (W : World) (h1 : Rd W v1 (bytesV hA)) (h2 : Rd W v2 (bytesV tA)) => (seal_own kA rfl nA rfl v1 v2 hA tA W h1 h2 (by decide) (by decide)).mono fun _ _ h => h.form)
  have HO := Lib.hid (fun (v1 v2 : Value) (W : World) (h1 : Rd W v1 (bytesV hA)) (h2 : Rd W v2 (bytesV (sealB kA nA hA tA))) => (open_any kA rfl nA rfl v1 v2 hA (sealB kA nA hA tA) W h1 h2 (by decide) (by rw [sealB_len]; decide)).mono fun _ _ h => h.sealed)
  rw [show (sealB kA nA hA tA).length = 20 from sealB_len _ _ _ _] at HS
  generalize sealB kA nA hA tA = S at *
  have kc := const_at w w.heap.size rfl
  have kc1 := fun o => const_at (w.alloc o) (w.heap.size + 1) (by simp)
  have r0 := (Rd.const w w.heap.size rfl hA (1, 2) 1 rfl (by decide)).alloc (.cells (bytesV tA).toArray 5 (4, 5))
  have r1 := Rd.const (w.alloc (.cells (bytesV hA).toArray 5 (1, 2))) (w.heap.size + 1) (by simp) tA (4, 5) 4 rfl (by decide)
  have HCS := Lib.hid (HS.out _ _ _ r0 r1)
  have HG1 := Lib.hid (grown_alloc (grown_alloc (grown_refl w none) (.cells (bytesV hA).toArray 5 (1, 2))) (.cells (bytesV tA).toArray 5 (4, 5)))
  clear r0 r1 HS
  go_enter Try.func8, Try.ntmps8
  go_wp2_with fail
  refine HCS.out.mono ?_
  rintro e w1 ⟨A1, c1, rfl, ho1, hg1⟩
  have HG2 := Lib.hid (HG1.out.trans hg1)
  have kc := const_at w1 w1.heap.size rfl
  have r0 := Rd.const w1 w1.heap.size rfl hA (1, 2) 1 rfl (by decide)
  have HCO := Lib.hid (HO.out _ _ _ r0 ((Rd.of_own ho1).alloc _))
  clear r0 ho1 hg1 HCS HG1 HO
  go_wp2_with fail
  refine HCO.out.mono ?_
  rintro e w2 ⟨v2, rfl, hg2, hx2⟩
  obtain ⟨g2, rfl, hr2⟩ := hx2
  have hrs : (convert 24 9 (.slice (some ⟨g2, 0, none⟩) 4 4)).run Try.prog w2 = .ok (.string ⟨#[116, 101, 120, 116]⟩) w2 := run_str (IsX.rd (l := tA) ⟨g2, rfl, hr2⟩ (by decide))
  have HG3 := Lib.hid (grown_alloc HG2.out (.cells #[.int .u8 104] 5 (1, 2)) |>.trans hg2)
  clear hr2 hg2 HCO
  simp only [show tA.length = 4 from rfl]
  go_wp2
  go_ret
  exact ⟨rfl, HG3.out⟩
end Go.Proofs.Ytjcbdplbekecjaa
