/-
  aead.tagged over this program.
-/
import Derived.Test.YtjcbdplbekecjaaAePut
namespace Go.Proofs.Ytjcbdplbekecjaa
open Go.RowKit

theorem Put.rd {w0 W : World} {ga : Nat} {l : List UInt8} (h : Put w0 ga l W) : ∃ A c, W.cell? ⟨ga, 0, none⟩ = some (.slice A l.length c) ∧ Rd W (.slice A l.length c) (bytesV l) ∧ (∀ b, (Value.slice A l.length c).ownBlock = some b → ga + 1 ≤ b ∧ b < W.heap.size) := by
  obtain ⟨A, c, h1, h2, h3⟩ := h
  exact ⟨A, c, h1.cell (j := 0) rfl, Rd.of_own h2, h2.lt⟩
theorem Put.kept {w0 W W' : World} {ga : Nat} {l : List UInt8} (h : Put w0 ga l W) (hg : W.grownBy W' none) : Put w0 ga l W' := by
  obtain ⟨A, c, h1, h2, h3⟩ := h
  exact ⟨A, c, h1.grown0 hg, own_keepN h2 hg, h3.trans hg⟩

set_option maxHeartbeats 1000000 in
theorem tagged_any (v1 v2 : Value) (h x : List UInt8) (w : World) (hr1 : Rd w v1 (bytesV h)) (hr2 : Rd w v2 (bytesV x)) (hh : h.length ≤ 100000000000) (hx : x.length ≤ 100000000000) :
    Calls Try.prog 26 #[v1, v2] w (Out w (tagd h x)) := by
  have hmf : ∀ (fn : Fn) (first cap : Array Value) (w : World), (Instr.makeFunc fn first cap).run Try.prog w = .ok (.func fn first cap) w := fun _ _ _ _ => rfl
  obtain ⟨A1, c1, rfl⟩ := hr1.form
  obtain ⟨A2, c2, rfl⟩ := hr2.form
  rw [bytesV_len] at hr1 hr2 ⊢
  rw [bytesV_len]
  have HR1 := Lib.hid hr1
  have HR2 := Lib.hid hr2
  have H1 := Lib.hid hh
  have H2 := Lib.hid hx
  have hp0 : Put w w.heap.size [] (w.alloc (.cells #[.slice none 0 0] 24)) := ⟨none, 0, Row.new w _ [.slice none 0 0], World.ownsRow_nil _ _ _ _, grown_alloc (grown_refl _ _) _⟩
  have HC0 := Lib.hid (put_any w w.heap.size (Nat.le_refl _) [] h (.slice A1 h.length c1) _ hp0 (hr1.grown0 (grown_alloc (grown_refl _ _) _)) (by simp; omega))
  have u1 := upB_le h
  have u2 := upB_le (upB h ++ x)
  rw [List.length_append] at u2
  have HU := Lib.hid (And.intro u1 u2)
  have HE := Lib.hid (tagd_put h x)
  have hm1 : ((h.length : Nat) : Int) % 18446744073709551616 = (h.length : Int) := by omega
  have hm2 : ((x.length : Nat) : Int) % 18446744073709551616 = (x.length : Int) := by omega
  clear hr1 hr2 hh hx hp0 u1 u2
  go_enter Try.func26, Try.ntmps26
  go_wp2_with fail
  refine HC0.out.mono ?_
  rintro e wa ⟨rfl, hpa⟩
  rw [List.nil_append] at hpa
  have HPA := Lib.hid hpa
  have HGA := Lib.hid (show w.grownBy wa none by obtain ⟨_, _, _, _, hg⟩ := hpa; exact hg)
  clear hpa HC0
  go_wp2_with fail
  refine (put_any w w.heap.size (Nat.le_refl _) (upB h) x (.slice A2 x.length c2) wa HPA.out (HR2.out.grown0 HGA.out) (by have := H1.out; have := H2.out; have := HU.out.1; omega)).mono ?_
  rintro e wb ⟨rfl, hpb⟩
  have HPB := Lib.hid hpb
  clear hpb
  go_wp2_with fail
  refine (fixed_any (.slice none 0 0) [] h.length 8 wb (Rd.nil _) (by simp) (by have := H1.out; omega)).mono ?_
  rintro e wc ⟨vc, rfl, hrc, hgc, _⟩
  rw [show wid 8 = 8 from rfl, List.nil_append] at hrc
  have HRC := Lib.hid hrc
  have HPC := Lib.hid (HPB.out.kept hgc)
  clear hrc hgc HPB
  go_wp2_with fail
  refine (fixed_any vc (low 8 h.length) x.length 8 wc HRC.out (by rw [low_len]; omega) (by have := H2.out; omega)).mono ?_
  rintro e wd ⟨vd, rfl, hrd, hgd, _⟩
  rw [show wid 8 = 8 from rfl] at hrd
  have HRD := Lib.hid hrd
  have HPD := Lib.hid (HPC.out.kept hgd)
  clear hrd hgd HPC
  go_wp2_with fail
  refine (put_any w w.heap.size (Nat.le_refl _) (upB (upB h ++ x)) (low 8 h.length ++ low 8 x.length) vd wd HPD.out HRD.out (by have := H1.out; have := H2.out; have := HU.out.1; have := HU.out.2; simp [low_len]; omega)).mono ?_
  rintro e we ⟨rfl, hpe⟩
  rw [HE.out] at hpe
  obtain ⟨A, c, hcell, hrd, hlt⟩ := hpe.rd
  have HF := Lib.hid (And.intro hpe (And.intro hrd hlt))
  clear hpe hrd hlt
  go_wp2
  go_ret
  obtain ⟨⟨_, _, _, _, hg⟩, hrd, hlt⟩ := HF.out
  exact ⟨_, rfl, hrd, hg, fun b hb => ⟨by have := (hlt b hb).1; omega, (hlt b hb).2⟩⟩
end Go.Proofs.Ytjcbdplbekecjaa
