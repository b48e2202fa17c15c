/-
  slices.Concat of rows of slices of bytes, over this program.
-/
import Derived.Test.YtmhcfbfdbminnaaDoorDerMask
namespace Go.Proofs.YtmhcfbfdbminnaaDoor
open Go.RowKit

theorem infoSl : ∃ i, Tryd.prog.info? 22 = some i ∧ i.zero = some (.slice none 0 0) ∧ i.size = 1 ∧ i.bytes = 24 := by
  have h : (Tryd.prog.info? 22).map (fun i => (i.zero, i.size, i.bytes)) = some (some (.slice none 0 0), 1, 24) := by kernel_rfl
  obtain ⟨i, hi, he⟩ := Option.map_eq_some_iff.1 h
  simp only [Prod.mk.injEq] at he
  exact ⟨i, hi, he.1, he.2.1, he.2.2⟩

/-- What slices.Grow of nothing answers: an empty row of the call's own. -/
def Grew (w : World) (e : Ending) (w' : World) : Prop := ∃ v, e = .returned v ∧ w'.ownsRow w.heap.size 22 1 v 0 [] ∧ w.grownBy w' none

set_option maxHeartbeats 4000000 in
theorem grow_nil (n : Nat) (hn : n ≤ 1000000) (w : World) :
    Calls Tryd.prog 27 #[.slice none 0 0, .int .i64 (n : Int)] w (Grew w) := by
  have h0 : decide ((n : Int) < 0) = false := by simp
  rcases Nat.eq_zero_or_pos n with rfl | hp
  · clear h0
    go_enter Tryd.func27, Tryd.ntmps27
    go_wp2
    go_ret
    exact ⟨_, rfl, ⟨rfl, .inl ⟨rfl, rfl⟩⟩, grown_refl _ _⟩
  · have hb : decide (0 < (n : Int)) = true := by simp; omega
    obtain ⟨i, hi, hz, hs1, hb1⟩ := infoSl
    have hrun := fun w => Lib.run_append_nil_zeros (P := Tryd.prog) w 33 3 33 22 i (.slice none 0 0) .i64 .i64 Tryd.underlying33 Tryd.underlying3 hi hz n hp (by omega) (by omega) (by rw [hb1]; omega)
    have HC := Lib.hid (And.intro (grownCap_ge w n 0 22) (grownCap_le_maxLen w n 0 22 (by unfold maxLen; omega)))
    have HRUN := Lib.hid (hrun w)
    generalize hcap : grownCap w n 0 22 = cap at *
    have HCAP := Lib.hid hcap
    clear hrun hcap hi hz hs1 hb1
    go_enter Tryd.func27, Tryd.ntmps27
    go_wp2_with (at_builtin; refine Lib.wpList_append_run _ rfl _ _ _ _ rfl _ _ rfl rfl _ _ HRUN.out ?_)
    go_ret
    refine ⟨_, rfl, ⟨rfl, .inr ⟨w.heap.size, cap, _, rfl, Nat.le_refl _, heap_alloc_last w _, Nat.zero_le _, HC.out.2, ?_, rfl⟩⟩, grown_drew (grown_alloc (grown_refl _ _) _)⟩
    have := HC.out.1
    rw [Array.size_append, size_zeroCells, size_zeroCells]
    simp
    omega

/-- Slices that read as these rows each. -/
def RowsOf (w : World) (us : List Value) (xss : List (List Value)) : Prop := us.length = xss.length ∧ ∀ (i : Nat) u xs, us[i]? = some u → xss[i]? = some xs → Rd w u xs
theorem RowsOf.two {w : World} {u1 u2 : Value} {xs1 xs2 : List Value} (h1 : Rd w u1 xs1) (h2 : Rd w u2 xs2) : RowsOf w [u1, u2] [xs1, xs2] := by
  refine ⟨rfl, fun i u xs hu hx => ?_⟩
  match i with
  | 0 => simp at hu hx; subst hu hx; exact h1
  | 1 => simp at hu hx; subst hu hx; exact h2
  | i + 2 => simp at hu

/-- What a call answers that makes a new row and turns nothing old. -/
def OutV (w : World) (xs : List Value) (e : Ending) (w' : World) : Prop := ∃ v, e = .returned v ∧ Rd w' v xs ∧ w.grownBy w' none

set_option maxHeartbeats 4000000 in
theorem concat_any (v : Value) (us : List Value) (xss : List (List Value)) (w : World) (hr : Rd w v us) (hp : RowsOf w us xss) (h1 : ∀ x ∈ xss.flatten, x.oneCell' = true) (hlen : xss.flatten.length ≤ 1000000) :
    Calls Tryd.prog 18 #[v] w (OutV w xss.flatten) := by
  have HR := Lib.hid hr
  obtain ⟨A, c, rfl⟩ := hr.form
  obtain ⟨hl, hlc, hcm⟩ := hr.len
  generalize hkk : us.length = len at *
  have HK := Lib.hid (hkk.symm.trans hp.1)
  have HP := Lib.hid hp
  have H1 := Lib.hid h1
  have HLEN := Lib.hid hlen
  unfold maxLen at hcm
  have HST := Lib.hid (fun k (hk : k < xss.length) => show (xss.take (k + 1)).flatten = (xss.take k).flatten ++ xss[k] by
    rw [List.take_succ_eq_append_getElem hk, List.flatten_append]
    simp)
  have HLE := Lib.hid (fun k => show (xss.take k).flatten.length ≤ 1000000 by
    have e : xss.flatten = (xss.take k).flatten ++ (xss.drop k).flatten := by rw [← List.flatten_append, List.take_append_drop]
    have h2 := hlen
    rw [e, List.length_append] at h2
    omega)
  have HMEM := Lib.hid (fun k (hk : k < xss.length) => show ∀ x ∈ xss[k], x.oneCell' = true from fun x hx => h1 x (List.mem_flatten.2 ⟨xss[k], List.getElem_mem hk, hx⟩))
  clear hr hl hp h1 hlen hkk
  go_enter Tryd.func18, Tryd.ntmps18
  go_wp2
  go_loopw [3, 11] (fun s i W => ∃ k : Nat, k ≤ len ∧ i = .int .i64 k ∧ s = .int .i64 (((xss.take k).flatten.length : Nat) : Int) ∧ w.grownBy W none) (fun _ i _ => len - (intOf i).toNat)
  case atStart => exact ⟨0, Nat.zero_le _, rfl, rfl, grown_refl _ _⟩
  case round =>
    obtain ⟨k, hk, rfl, rfl, hgr⟩ := hrel
    have HGR := Lib.hid hgr
    clear hgr
    by_cases hlt : k < len
    · obtain ⟨ad, u, rfl, hu, hcell⟩ := Rd.cellAt (HR.out.grown0 HGR.out) hlt
      have hkl : k < xss.length := by rw [← HK.out]; exact hlt
      have hru := HP.out.2 k u _ hu (List.getElem?_eq_getElem hkl)
      have hst := congrArg List.length (HST.out k hkl)
      have hle := HLE.out (k + 1)
      rw [List.length_append] at hst
      obtain ⟨A2, c2, rfl⟩ := hru.form
      generalize xss[k].length = m2 at *
      generalize (xss.take k).flatten.length = s0 at *
      have HST1 := Lib.hid hst
      have hle2 : s0 + m2 ≤ 1000000 := by omega
      have hneg : decide ((s0 : Int) + (m2 : Int) < 0) = false := by simp; omega
      clear hst hru hu hle
      go_wp2
      go_roundw
      case rel => exact ⟨k + 1, by omega, by go_num, by rw [HST1.out]; go_num, HGR.out⟩
      case measure => simp [intOf]; omega
    · have htk : xss.take k = xss := List.take_of_length_le (by rw [← HK.out]; omega)
      rw [htk]
      have hge := HLEN.out
      have HGROW := Lib.hid (grow_nil xss.flatten.length HLEN.out wr)
      generalize xss.flatten.length = tot at *
      clear htk
      go_wp2_with fail
      refine HGROW.out.mono ?_
      rintro e w1 ⟨v1, rfl, ho1, hg1⟩
      generalize hB : wr.heap.size = B at *
      have HB := Lib.hid (show w.heap.size ≤ B from hB ▸ HGR.out.size)
      have HO1 := Lib.hid ho1
      have HG1 := Lib.hid (HGR.out.trans hg1)
      have HSZ := Lib.hid (show B ≤ w1.heap.size from hB ▸ hg1.size)
      clear ho1 hg1 HGROW HGR hB hge
      go_wp2
      clear hk hlt
      go_loopw [6, 27] (fun v i W => ∃ k : Nat, k ≤ len ∧ i = .int .i64 k ∧ W.ownsRow B 22 1 v (xss.take k).flatten.length (xss.take k).flatten ∧ w.grownBy W none ∧ B ≤ W.heap.size) (fun _ i _ => len - (intOf i).toNat)
      case atStart => exact ⟨0, Nat.zero_le _, rfl, HO1.out, HG1.out, HSZ.out⟩
      case round =>
        clear HO1 HG1 HSZ
        obtain ⟨k, hk, rfl, ho, hgr, hsz⟩ := hrel
        have HO := Lib.hid ho
        have HGR := Lib.hid hgr
        have HSZ := Lib.hid hsz
        clear ho hgr hsz
        by_cases hlt : k < len
        · obtain ⟨ad, u, rfl, hu, hcell⟩ := Rd.cellAt (HR.out.grown0 HGR.out) hlt
          have hkl : k < xss.length := by rw [← HK.out]; exact hlt
          have hru := (HP.out.2 k u _ hu (List.getElem?_eq_getElem hkl)).grown0 HGR.out
          have hst := HST.out k hkl
          have hle := HLE.out (k + 1)
          have hmem := HMEM.out k hkl
          rw [hst, List.length_append] at hle
          have HST1 := Lib.hid hst
          obtain ⟨A2, c2, rfl⟩ := hru.form
          generalize xss[k] = ys at *
          generalize (xss.take k).flatten = zs at *
          obtain ⟨i, hi, hz, hs1, hb1⟩ := infoSl
          have HRU := Lib.hid hru
          have HMM := Lib.hid hmem
          have HLL := Lib.hid hle
          have HI := Lib.hid (And.intro hi (And.intro hz (And.intro hs1 hb1)))
          clear hst hru hu hle hmem hi hz hs1 hb1
          go_wp2_with (at_builtin; refine wpList_append_rd _ rfl _ _ 33 rfl B 22 i (.slice none 0 0) 24 Tryd.underlying33 HI.out.1 HI.out.2.1 HI.out.2.2.1 HI.out.2.2.2 rfl _ _ _ rfl HO.out _ ys rfl HRU.out HMM.out ?_ ?_ HSZ.out ?_)
          · have := HLL.out; omega
          · have := HLL.out; omega
          · intro v2 w2 ho2 hg2 hat2
            have HO2 := Lib.hid ho2
            have HG2 := Lib.hid (grown_new HGR.out hg2 (fun b hb => Nat.le_trans HB.out ((HO.out.lt b hb).1)))
            have HSZ2 := Lib.hid (Nat.le_trans HSZ.out hg2.size)
            clear ho2 hg2 hat2
            go_wp2
            go_roundw
            case rel =>
              refine ⟨k + 1, by omega, by go_num, ?_, HG2.out, HSZ2.out⟩
              rw [HST1.out, List.length_append]
              exact HO2.out
            case measure => simp [intOf]; omega
        · have htk : xss.take k = xss := List.take_of_length_le (by rw [← HK.out]; omega)
          rw [htk] at HO
          clear htk
          go_wp2
          go_ret
          exact ⟨_, rfl, Rd.of_own HO.out, HGR.out⟩
end Go.Proofs.YtmhcfbfdbminnaaDoor
