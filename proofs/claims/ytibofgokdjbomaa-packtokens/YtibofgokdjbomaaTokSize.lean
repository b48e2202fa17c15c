/-
  match's Size over this program.
-/
import Derived.Test.YtibofgokdjbomaaTokRow
namespace Go.Proofs.Ytibofgokdjbomaa
set_option maxRecDepth 1000000
open Go.RowKit

set_option maxHeartbeats 4000000 in
theorem sizes_any (l : List Tok) (v : Value) (w : World) (hv : RdT w v l) (hl : l.length ≤ 100000) :
    Calls Try.prog 19 #[v] w (Val (.int .i64 (sizes l)) w) := by
  obtain ⟨A, c, rfl⟩ := hv.form
  have HV := Lib.hid hv
  have HL := Lib.hid hl
  clear hv hl
  obtain ⟨n, hn⟩ : ∃ n, l.length = n := ⟨_, rfl⟩
  have HN := Lib.hid hn
  rw [hn] at HL HV ⊢
  clear hn
  go_enter Try.func19, Try.ntmps19
  go_wp2
  go_loopw [8, 3] (fun i s W => ∃ k : Nat, k ≤ n ∧ i = .int .i64 k ∧ s = .int .i64 (sizes (l.take k)) ∧ w.grownBy W none) (fun i _ _ => n - (intOf i).toNat)
  case atStart => exact ⟨0, Nat.zero_le _, rfl, rfl, grown_refl _ _⟩
  case round =>
    obtain ⟨k, hk, rfl, rfl, hg⟩ := hrel
    by_cases hlt : k < n
    · have hkl : k < l.length := by rw [HN.out]; exact hlt
      obtain ⟨ad, t, rfl, ht, c0, c1, c2⟩ := (HV.out.grown0 hg).tok hkl
      have hnn := HL.out
      have HG := Lib.hid hg
      have HT := Lib.hid ht
      have HR := Lib.hid (fun w => right_any t w)
      have HS := Lib.hid (fun w => size_any t w)
      clear hg ht
      have RN := Lib.hid (Row.new wr 37 (tokC t))
      have HGA := Lib.hid (grown_alloc (grown_refl wr none) (.cells (tokC t).toArray 37))
      have HNX := Lib.hid (show sizes (l.take (k + 1)) = sizes (l.take k) + told t by rw [sizes_next l k hkl, HT.out])
      have HB := Lib.hid (show 0 ≤ sizes (l.take k) ∧ sizes (l.take k) ≤ 258 * k by have := sizes_bound (l.take k); rw [List.length_take] at this; omega)
      go_wp2_with fail
      refine (HR.out _).mono ?_
      rintro e w1 ⟨rfl, hg1⟩
      have R1 := RN.out.grown0 hg1
      have HG1 := Lib.hid (HGA.out.trans hg1)
      have d0 := R1.cell (j := 0) rfl
      have d1 := R1.cell (j := 1) rfl
      have d2 := R1.cell (j := 2) rfl
      clear R1 hg1 c0 c1 c2
      cases hr : right t with
      | false =>
        have ht0 : told t = 0 := by rw [told, hr]; rfl
        rw [ht0, Int.add_zero] at HNX
        go_wp2
        go_roundw
        case rel => exact ⟨k + 1, by omega, rfl, by rw [HNX.out], HG.out.trans HG1.out⟩
        case measure => simp only [intOf]; omega
      | true =>
        have ht0 : told t = tsize t := by rw [told, hr]; rfl
        have htb := told_bound t
        rw [ht0] at HNX htb
        have hwr : IntKind.i64.wrap (sizes (l.take k) + tsize t) = sizes (l.take (k + 1)) := by
          have := HB.out
          have := HL.out
          rw [HNX.out, IntKind.wrap_i64]; omega
        clear ht0 htb
        go_wp2_with fail
        refine (HS.out _).mono ?_
        rintro e w2 ⟨rfl, hg2⟩
        go_wp2
        go_roundw
        case rel => exact ⟨k + 1, by omega, rfl, rfl, (HG.out.trans HG1.out).trans hg2⟩
        case measure => simp only [intOf]; omega
    · have hkn : k = n := by omega
      subst hkn
      have hw : sizes (l.take k) = sizes l := by rw [← HN.out, List.take_length]
      go_wp2
      go_ret
      exact ⟨by rw [← hw]; rfl, hg⟩
end Go.Proofs.Ytibofgokdjbomaa
