/-
  The document's own Saw of layer 10, over this program.
-/
import Derived.Test.YtohndlfekecfoaaCodRr
import Derived.Test.YtohndlfekecfoaaCodEnd
import Derived.Test.YtohndlfekecfoaaCodTree
import Derived.Test.YtohndlfekecfoaaBytOps
namespace Go.Proofs.Ytohndlfekecfoaa
set_option maxRecDepth 1000000
open Go.RowKit

set_option maxHeartbeats 400000 in
theorem rsaw_any (c : Nat) (b : Bool) (hc : Okn c) (w : World) : Calls Try.prog 10 #[.int .i64 (c : Int), .int .i64 (b.toNat : Int)] w (SameW (.int .i64 ((saw c b : Nat) : Int)) w) := by
  obtain ⟨h1, h2⟩ := hc
  cases b with
  | false =>
    have ht : ((2048 : Int) - (c : Int)).tdiv 32 = (((2048 - c) / 32 : Nat) : Int) := by rw [Int.tdiv_eq_ediv_of_nonneg (by omega)]; omega
    show Calls _ _ #[_, .int .i64 0] w _
    obtain ⟨d, hd⟩ : ∃ d, d = (2048 - c) / 32 := ⟨_, rfl⟩
    have HS := Lib.hid (show saw c false = c + d by rw [hd]; rfl)
    rw [← hd] at ht
    have hdl : d ≤ 64 := by omega
    clear hd
    go_enter Try.func10, Try.ntmps10
    go_wp2
    go_ret
    exact ⟨by rw [HS.out]; rfl, rfl⟩
  | true =>
    have ht : (c : Int).tdiv 32 = ((c / 32 : Nat) : Int) := by rw [Int.tdiv_eq_ediv_of_nonneg (by omega)]; omega
    show Calls _ _ #[_, .int .i64 1] w _
    obtain ⟨d, hd⟩ : ∃ d, d = c / 32 := ⟨_, rfl⟩
    have HS := Lib.hid (show saw c true = c - d by rw [hd]; rfl)
    rw [← hd] at ht
    have hdl : d ≤ c := by omega
    have hsub : (c : Int) - (d : Int) = ((c - d : Nat) : Int) := by omega
    clear hd
    go_enter Try.func10, Try.ntmps10
    go_wp2
    go_ret
    exact ⟨by rw [HS.out, ← hsub]; rfl, rfl⟩
end Go.Proofs.Ytohndlfekecfoaa
