/-
  The document's own Pack of layer 11 over this program.
-/
import Derived.Test.YtibofgokdjbomaaPkRwrite
import Derived.Test.YtibofgokdjbomaaPkPack
import Derived.Test.YtibofgokdjbomaaRefParse
import Derived.Test.YtibofgokdjbomaaORef
namespace Go.Proofs.Ytibofgokdjbomaa
set_option maxRecDepth 1000000
open Go.RowKit

set_option maxHeartbeats 4000000 in
theorem refPack_any (v : Value) (b : List UInt8) (q : Int) (w : World) (hv : Rd w v (bytesV b)) (hb : b.length ≤ 300) (hq : 1 ≤ q ∧ q ≤ 32768) :
    Calls Try.prog 13 #[v, .int .i64 q] w (fun e w' => ∃ u, e = .returned u ∧ Rd w' u (bytesV (packM b q)) ∧ w.grownBy w' none) := by
  obtain ⟨A, c, rfl⟩ := hv.form
  have HV := Lib.hid hv
  rw [bytesV_len] at HV ⊢
  clear hv
  have HB := Lib.hid hb
  have HPB := Lib.hid (parse_back b q hq (by omega)).1
  have HPA := Lib.hid (fun W (hW : Rd W (.slice A b.length c) (bytesV b)) => refParse_any _ b q W hW (by omega) hq)
  have HNU := Lib.hid (fun (W : World) => by
    have h := O.refNumber_any (b.length : Int) W
    rw [show norm (b.length : Int) = b.length by unfold norm; rw [if_neg (by omega)]; simp] at h
    exact h)
  have HFEW := Lib.hid (show (parse b q).length ≤ 2000 by
    have he : (expand (parse b q)).2 = 0 := by rw [HPB.out]
    have h1 := sizes_pos (parse b q) [] he
    have h2 := expandFrom_ok (parse b q) [] he
    have h3 : expandFrom [] (parse b q) = (b, 0) := HPB.out
    rw [h3] at h2
    simp at h2
    omega)
  have HWL := Lib.hid (show (enc b.length).length ≤ 3 ∧ (writeS (parse b q)).length ≤ 1000000 by
    have h := write_len (l := parse b q) (by rw [HPB.out])
    rw [HPB.out] at h
    have := enc_len3 (show b.length ≤ 65536 by omega)
    simp only at h
    omega)
  have HPM := Lib.hid (show packM b q = enc b.length ++ writeS (parse b q) from rfl)
  clear hb hq
  generalize hn : b.length = n at *
  go_enter Try.func13, Try.ntmps13
  go_wp2_with fail
  refine (HNU.out w).mono ?_
  rintro e w1 ⟨v1, rfl, ho1, hg1⟩
  have H1 := Lib.hid (And.intro ho1 hg1)
  clear ho1 hg1
  go_wp2_with fail
  refine (HPA.out w1 (HV.out.grown0 H1.out.2)).mono ?_
  rintro e w2 ⟨v2, rfl, ht2, hg2⟩
  have H2 := Lib.hid (show RdT w2 v2 (parse b q) ∧ w2.ownsRow w.heap.size 5 1 v1 (enc n).length (bytesV (enc n)) ∧ w.grownBy w2 none from ⟨ht2, own_grown H1.out.1 hg2, H1.out.2.trans hg2⟩)
  have HWR := Lib.hid (writeR_any (parse b q) v2 w2 ht2 (by rw [HPB.out]) HFEW.out)
  clear ht2 hg2 H1
  go_wp2_with fail
  refine HWR.out.mono ?_
  rintro e w3 ⟨v3, rfl, hr3, hg3⟩
  have H3 := Lib.hid (show Rd w3 v3 (bytesV (writeS (parse b q))) ∧ w3.ownsRow w.heap.size 5 1 v1 (enc n).length (bytesV (enc n)) ∧ w.grownBy w3 none from ⟨hr3, own_grown H2.out.2.1 hg3, H2.out.2.2.trans hg3⟩)
  clear hr3 hg3 H2 HWR
  go_wp2_with (at_builtin; refine wpList_append_bytes _ rfl _ _ rfl w.heap.size v1 (enc n).length (bytesV (enc n)) rfl H3.out.2.1 v3 (writeS (parse b q)) rfl H3.out.1 (by have := HWL.out; omega) H3.out.2.2.size ?_; intro v4 w4 ho4 hg4 hat4)
  have HO4 := Lib.hid (show Rd w4 v4 (bytesV (enc n ++ writeS (parse b q))) by
    have h := Rd.of_own ho4
    rw [← bytesV_app] at h
    exact h)
  have HG4 := Lib.hid (grown_new H3.out.2.2 hg4 (fun k e => (H3.out.2.1.lt k e).1))
  clear ho4 hg4 hat4
  go_wp2
  go_ret
  exact ⟨_, rfl, by rw [HPM.out]; exact HO4.out, HG4.out⟩
end Go.Proofs.Ytibofgokdjbomaa
