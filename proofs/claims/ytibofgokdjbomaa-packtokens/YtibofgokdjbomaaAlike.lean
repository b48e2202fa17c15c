/-
  match's alike over this program.
-/
import Derived.Test.YtibofgokdjbomaaLz
import Derived.Test.YtibofgokdjbomaaMMem
import Derived.Test.YtibofgokdjbomaaChecked
namespace Go.Proofs.Ytibofgokdjbomaa
set_option maxRecDepth 1000000
open Go.RowKit

set_option maxHeartbeats 4000000 in
theorem alike_any (va vn : Value) (la ln : List UInt8) (w : World) (ha : Rd w va (bytesV la)) (hn : Rd w vn (bytesV ln)) (hle : ln.length ≤ la.length) (hsm : ln.length ≤ 100000) :
    Calls Try.prog 88 #[va, vn] w (Val (.int .i64 (alikeN la ln : Nat)) w) := by
  obtain ⟨A, c, rfl⟩ := ha.form
  obtain ⟨A2, c2, rfl⟩ := hn.form
  simp only [bytesV_len] at ha hn ⊢
  obtain ⟨n, hnl⟩ : ∃ n, ln.length = n := ⟨_, rfl⟩
  have HN := Lib.hid hnl
  rw [hnl] at hn hsm ⊢
  have HA := Lib.hid ha
  have HR := Lib.hid hn
  have HLE := Lib.hid hle
  clear ha hn hnl hle
  go_enter Try.func88, Try.ntmps88
  go_wp2
  go_loopw [9] (fun i W => ∃ k : Nat, k ≤ n ∧ i = .int .i64 k ∧ w.grownBy W none ∧ ∀ j, j < k → la[j]? = ln[j]?) (fun i _ => n - (intOf i).toNat)
  case atStart => exact ⟨0, Nat.zero_le _, rfl, grown_refl _ _, fun j hj => by omega⟩
  case round =>
    obtain ⟨k, hk, rfl, hg, hs⟩ := hrel
    by_cases hlt : k < n
    · have hkn : k < ln.length := by rw [HN.out]; exact hlt
      have hka : k < la.length := by have := HLE.out; omega
      obtain ⟨ad, y, rfl, hd1, cy⟩ := (HR.out.grown0 hg).at_ hkn
      obtain ⟨ad1, x, rfl, hd2, cx⟩ := (HA.out.grown0 hg).at_ hka
      have hy : ln[k]? = some y := by rw [List.drop_eq_getElem_cons hkn] at hd1; injection hd1 with h1 _; rw [← h1, List.getElem?_eq_getElem hkn]
      have hx : la[k]? = some x := by rw [List.drop_eq_getElem_cons hka] at hd2; injection hd2 with h1 _; rw [← h1, List.getElem?_eq_getElem hka]
      have HS := Lib.hid hs
      have HG := Lib.hid hg
      have HX := Lib.hid hx
      have HY := Lib.hid hy
      clear hd1 hd2 hs hg hx hy
      by_cases he : x = y
      · subst he
        go_wp2
        go_roundw
        case rel => exact ⟨k + 1, by omega, rfl, HG.out, fun j hj => by
          by_cases hjk : j < k
          · exact HS.out j hjk
          · obtain rfl : j = k := by omega
            rw [HX.out, HY.out]⟩
        case measure => simp only [intOf]; omega
      · have hne : ((x.toNat : Int) == (y.toNat : Int)) = false := by
          rw [beq_eq_false_iff_ne]
          intro h
          exact he (UInt8.toNat_inj.1 (by omega))
        go_wp2
        go_ret
        refine ⟨?_, HG.out⟩
        rw [alikeN_stop la ln k hkn hka HS.out (by rw [HX.out, HY.out]; simpa using he)]
        rfl
    · have hkn : k = n := by omega
      subst hkn
      go_wp2
      go_ret
      refine ⟨?_, hg⟩
      rw [alikeN_all la ln HLE.out (fun j hj => hs j (by rw [← HN.out]; exact hj)), HN.out]
      rfl
end Go.Proofs.Ytibofgokdjbomaa
