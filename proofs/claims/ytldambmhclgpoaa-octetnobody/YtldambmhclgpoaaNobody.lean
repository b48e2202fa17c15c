/-
  The walk of the law OctetNobody.
-/
import Derived.Test.YtldambmhclgpoaaAwake
namespace Go.Proofs.Ytldambmhclgpoaa
open Go.RowKit

theorem run_eql_func_nil (k : Nat) (W : World) : Sem.run Try.prog (binOp .eql 55 (.func (.func k) #[] #[]) .nilFunc) W = .ok (.bool false) W := by
  kernel_rfl

set_option maxHeartbeats 1000000 in
theorem list_nil (k : Nat) (n : Int) (w : World) :
    Calls Try.prog 29 #[.pointer none, .int .i64 n, .func (.func k) #[] #[]] w fun e w' => e = .returned (.slice none 0 0) ∧ w = w' := by
  have hf := run_eql_func_nil k
  go_enter Try.func29, Try.ntmps29
  go_wp2_with (go_at_call 19; refine (rnum_nil _ _).mono ?_; rintro e w1 ⟨rfl, rfl⟩)
  go_loop [8, 16] (fun a b => a = .slice none 0 0 ∧ b = .int .i64 0) (fun _ _ => 0)
  case atStart => exact ⟨rfl, rfl⟩
  case round =>
    obtain ⟨rfl, rfl⟩ := hrel
    go_wp2
    go_ret
    exact ⟨rfl, rfl⟩

set_option maxHeartbeats 1000000 in
theorem nobody_walk (n : Int) (w : World) :
    Calls Try.prog 7 #[.int .i64 n] w (Awake w) := by
  go_enter Try.func7, Try.ntmps7
  go_wp2_with (first
    | (go_at_call 27; refine (fail_nil _ _).mono ?_; rintro e w1 ⟨rfl, rfl⟩)
    | (go_at_call 29; refine (list_nil _ _ _).mono ?_; rintro e w1 ⟨rfl, rfl⟩)
    | (go_at_call 19; refine (rnum_nil _ _).mono ?_; rintro e w1 ⟨rfl, rfl⟩)
    | (go_at_call 21; refine (rbytes_nil _ _).mono ?_; rintro e w1 ⟨rfl, rfl⟩)
    | (go_at_call 23; refine (rfix_nil _ _).mono ?_; rintro e w1 ⟨rfl, rfl⟩)
    | (go_at_call 28; refine (err_nil _).mono ?_; rintro e w1 ⟨rfl, rfl⟩)
    | (go_at_call 24; refine (end_nil _).mono ?_; rintro e w1 ⟨rfl, rfl⟩)
    | (go_at_call 26; refine (left_nil _).mono ?_; rintro e w1 ⟨rfl, rfl⟩)
    | (go_at_call 10; refine (awake_any _).mono ?_; rintro e w1 ⟨rfl, hg⟩))
  go_ret
  exact ⟨rfl, hg⟩
end Go.Proofs.Ytldambmhclgpoaa
