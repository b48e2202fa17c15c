/-
  The walk of the law OctetPuts.
-/
import Derived.Test.YtldambmhclgpoaaRef
import Derived.Test.YtldambmhclgpoaaRegOps
namespace Go.Proofs.Ytldambmhclgpoaa
open Go.RowKit

/-- A contract, as a region's step wants it. -/
theorem out_step {P : Program} {f : FuncId} {args : Array Value} {w : World} {l l' : List UInt8} (h : Calls P f args w (Out w l)) (hl : l = l') : Calls P f args w fun e w' => ∃ v, e = .returned v ∧ w.grownBy w' none ∧ IsB l' v w' := by
  subst hl
  exact h.mono fun _ _ ⟨v, he, hr, hg, _⟩ => ⟨v, he, hg, hr⟩
theorem awake_step (w : World) : Calls Try.prog 10 #[] w fun e w' => ∃ v, e = .returned v ∧ w.grownBy w' none ∧ Is (.bool true) v w' :=
  (awake_any w).mono fun _ _ ⟨he, hg⟩ => ⟨_, he, hg, rfl⟩

theorem st_number {x y : Value} {b : List UInt8} {n : Int} {w : World} (hx : IsB b x w) (hy : Is (.int .i64 n) y w) (hb : b.length ≤ 1099511627776) :
    Calls Try.prog 11 #[x, y] w fun e w' => ∃ v, e = .returned v ∧ w.grownBy w' none ∧ IsB (b ++ enc (norm n)) v w' := by
  obtain rfl : y = .int .i64 n := hy
  exact out_step (number_any x b n w hx hb) rfl
theorem st_bytes {x y : Value} {b l : List UInt8} {w : World} (hx : IsB b x w) (hy : IsB l y w) (hb : b.length ≤ 1099511627776) (hl : l.length ≤ 1099511627775) :
    Calls Try.prog 13 #[x, y] w fun e w' => ∃ v, e = .returned v ∧ w.grownBy w' none ∧ IsB (b ++ (enc l.length ++ l)) v w' :=
  out_step (bytes_any x y b l w hx hy hb hl) (List.append_assoc _ _ _)
theorem st_fixed {x y z : Value} {b : List UInt8} {m : Nat} {k : Int} {w : World} (hx : IsB b x w) (hy : Is (.int .u64 m) y w) (hz : Is (.int .i64 k) z w) (hb : b.length ≤ 1099511627776) (hm : m < 18446744073709551616) :
    Calls Try.prog 15 #[x, y, z] w fun e w' => ∃ v, e = .returned v ∧ w.grownBy w' none ∧ IsB (b ++ low (wid k) m) v w' := by
  obtain rfl : y = .int .u64 m := hy
  obtain rfl : z = .int .i64 k := hz
  exact out_step (fixed_any x b m k w hx hb hm) rfl
theorem st_refNumber {y : Value} {n : Int} {w : World} (hy : Is (.int .i64 n) y w) :
    Calls Try.prog 12 #[y] w fun e w' => ∃ v, e = .returned v ∧ w.grownBy w' none ∧ IsB (enc (norm n)) v w' := by
  obtain rfl : y = .int .i64 n := hy
  exact out_step (refNumber_out n w) rfl
theorem st_refBytes {y : Value} {l : List UInt8} {w : World} (hy : IsB l y w) (hl : l.length ≤ 1099511627775) :
    Calls Try.prog 14 #[y] w fun e w' => ∃ v, e = .returned v ∧ w.grownBy w' none ∧ IsB (enc l.length ++ l) v w' :=
  out_step (refBytes_out y l w hy hl) rfl
theorem st_refFixed {y z : Value} {m : Nat} {k : Int} {w : World} (hy : Is (.int .u64 m) y w) (hz : Is (.int .i64 k) z w) (hm : m < 18446744073709551616) :
    Calls Try.prog 16 #[y, z] w fun e w' => ∃ v, e = .returned v ∧ w.grownBy w' none ∧ IsB (low (wid k) m) v w' := by
  obtain rfl : y = .int .u64 m := hy
  obtain rfl : z = .int .i64 k := hz
  exact out_step (refFixed_out m k w hm) rfl

set_option maxHeartbeats 4000000 in
set_option maxRecDepth 100000 in
theorem puts_walk (u v : Value) (b x : List UInt8) (n : Int) (m : Nat) (k : Int) (w : World) (hu : Rd w u (bytesV b)) (hv : Rd w v (bytesV x)) (hm : m < 18446744073709551616) :
    Calls Try.prog 3 #[u, v, .int .i64 n, .int .u64 m, .int .i64 k] w (Awake w) := by
  have HM : Hid (m < 18446744073709551616) := hm
  have HU := hu
  have HV := hv
  obtain ⟨A, c, rfl⟩ := hu.form
  obtain ⟨A', c', rfl⟩ := hv.form
  rw [bytesV_len] at HU HV ⊢
  rw [bytesV_len]
  clear hm hu hv
  by_cases hb : 2000 < b.length
  · go_enter Try.func3, Try.ntmps3
    go_wp2_with fail
    refine (awake_any _).mono ?_
    rintro e w1 ⟨rfl, hg1⟩
    go_wp2
    go_ret
    exact ⟨rfl, hg1⟩
  · have hbb : decide (2000 < b.length) = false := by simpa using hb
    by_cases hx : 2000 < x.length
    · go_enter Try.func3, Try.ntmps3
      go_wp2_with fail
      refine (awake_any _).mono ?_
      rintro e w1 ⟨rfl, hg1⟩
      go_wp2
      go_ret
      exact ⟨rfl, hg1⟩
    · have hxb : decide (2000 < x.length) = false := by simpa using hx
      obtain ⟨i, hi, hz, hs1, hb1⟩ := info5
      have HI := Lib.hid (And.intro hi (And.intro hz (And.intro hs1 hb1)))
      clear hb1 hi hz hs1
      have hE := enc_six (norm n) (norm_le n)
      have hE2 := enc_six x.length (by omega)
      have hL : (low (wid k) m).length ≤ 8 := by
        rw [low_len]
        unfold wid
        split
        · rename_i h; simp [okWidth] at h; omega
        · omega
      have HL := Lib.hid (And.intro hE (And.intro hE2 hL))
      clear hE hE2 hL
      go_enter Try.func3, Try.ntmps3
      go_wp2_with (at_builtin; refine wpList_append_rd _ rfl _ _ _ rfl w.heap.size 5 i (.int .u8 0) 1 Try.underlying22 HI.out.1 HI.out.2.1 HI.out.2.2.1 HI.out.2.2.2 rfl _ 0 [] rfl ?_ _ (bytesV b) rfl ?_ (bytesV_one b) ?_ ?_ ?_ ?_)
      · exact World.ownsRow_made _ _ _ (Nat.le_refl _) (Nat.zero_le _) rfl
      · exact HU.grown0 (grown_alloc (grown_refl _ _) _)
      · rw [bytesV_len]; omega
      · rw [bytesV_len]; omega
      · simp
      · intro v1 w1 ho hg hat
        have hgA : w.grownBy w1 none := grown_new (grown_alloc (grown_refl _ _) _) hg (fun b hb => by simp [Value.ownBlock] at hb; omega)
        have HO : Rd w1 v1 (bytesV b) := by simpa using Rd.of_own ho
        have HU1 := HU.grown0 hgA
        have HV1 := HV.grown0 hgA
        have HG := Lib.hid hgA
        clear hat ho hg hgA
        go_wp2_with fail
        refine wp_region_steps none (by kernel_rfl) (by kernel_rfl) (by kernel_rfl) ?_
        refine Steps.val (G := IsB (b)) (lasts_bytes _) rfl (fun a w hm hd => ⟨wanted_plain rfl, _, ex_move rfl, (by rw [hm.outer 11 (by kernel_rfl)]; exact HO.grown0 hm.grow)⟩) ?_
        refine Steps.val (G := Is (.int .i64 n)) (lasts_is _) rfl (fun a w hm hd => ⟨wanted_plain rfl, _, ex_move rfl, (by rw [hm.outer 2 (by kernel_rfl)]; exact rfl)⟩) ?_
        refine Steps.call (G := IsB (b ++ enc (norm n))) (lasts_bytes _) rfl 11 (fun a w hm hd => ⟨wanted_plain rfl, _, ex_call2 Try.func11 (by kernel_rfl) (by kernel_rfl) rfl, st_number (hd.at_ 0 rfl rfl rfl) (hd.at_ 1 rfl rfl rfl) (by omega)⟩) ?_
        refine Steps.val (G := Is (.string ⟨(b ++ enc (norm n)).toArray⟩)) (lasts_is _) rfl (fun a w hm hd => ⟨wanted_plain rfl, _, ex_conv rfl (hd.at_ 2 rfl rfl rfl), rfl⟩) ?_
        refine Steps.val (G := IsB (b)) (lasts_bytes _) rfl (fun a w hm hd => ⟨wanted_plain rfl, _, ex_move rfl, (by rw [hm.outer 0 (by kernel_rfl)]; exact HU1.grown0 hm.grow)⟩) ?_
        refine Steps.val (G := Is (.string ⟨(b).toArray⟩)) (lasts_is _) rfl (fun a w hm hd => ⟨wanted_plain rfl, _, ex_conv rfl (hd.at_ 4 rfl rfl rfl), rfl⟩) ?_
        refine Steps.val (G := Is (.int .i64 n)) (lasts_is _) rfl (fun a w hm hd => ⟨wanted_plain rfl, _, ex_move rfl, (by rw [hm.outer 2 (by kernel_rfl)]; exact rfl)⟩) ?_
        refine Steps.call (G := IsB (enc (norm n))) (lasts_bytes _) rfl 12 (fun a w hm hd => ⟨wanted_plain rfl, _, ex_call1 Try.func12 (by kernel_rfl) (by kernel_rfl) rfl, st_refNumber (hd.at_ 6 rfl rfl rfl)⟩) ?_
        refine Steps.val (G := Is (.string ⟨(enc (norm n)).toArray⟩)) (lasts_is _) rfl (fun a w hm hd => ⟨wanted_plain rfl, _, ex_conv rfl (hd.at_ 7 rfl rfl rfl), rfl⟩) ?_
        refine Steps.val (G := Is (.string ⟨(b ++ enc (norm n)).toArray⟩)) (lasts_is _) rfl (fun a w hm hd => ⟨wanted_plain rfl, _, ex_add rfl (hd.at_ 5 rfl rfl rfl) (hd.at_ 8 rfl rfl rfl) (by have := HL.out; (try simp only [List.length_append]); omega), rfl⟩) ?_
        refine Steps.val (G := Is (.bool true)) (lasts_is _) rfl (fun a w hm hd => ⟨wanted_plain rfl, _, ex_eqs rfl (hd.at_ 3 rfl rfl rfl) (hd.at_ 9 rfl rfl rfl), rfl⟩) ?_
        refine Steps.val (G := Is (.bool true)) (lasts_is _) rfl (fun a w hm hd => ⟨wanted_plain rfl, _, ex_move rfl, (hd.at_ 10 rfl rfl rfl)⟩) ?_
        refine Steps.val (G := IsB (b)) (lasts_bytes _) rfl (fun a w hm hd => ⟨wanted_at rfl rfl (hd.at_ 11 rfl rfl rfl), _, ex_move rfl, (by rw [hm.outer 11 (by kernel_rfl)]; exact HO.grown0 hm.grow)⟩) ?_
        refine Steps.val (G := IsB (x)) (lasts_bytes _) rfl (fun a w hm hd => ⟨wanted_at rfl rfl (hd.at_ 11 rfl rfl rfl), _, ex_move rfl, (by rw [hm.outer 1 (by kernel_rfl)]; exact HV1.grown0 hm.grow)⟩) ?_
        refine Steps.call (G := IsB (b ++ (enc x.length ++ x))) (lasts_bytes _) rfl 13 (fun a w hm hd => ⟨wanted_at rfl rfl (hd.at_ 11 rfl rfl rfl), _, ex_call2 Try.func13 (by kernel_rfl) (by kernel_rfl) rfl, st_bytes (hd.at_ 12 rfl rfl rfl) (hd.at_ 13 rfl rfl rfl) (by omega) (by omega)⟩) ?_
        refine Steps.val (G := Is (.string ⟨(b ++ (enc x.length ++ x)).toArray⟩)) (lasts_is _) rfl (fun a w hm hd => ⟨wanted_at rfl rfl (hd.at_ 11 rfl rfl rfl), _, ex_conv rfl (hd.at_ 14 rfl rfl rfl), rfl⟩) ?_
        refine Steps.val (G := IsB (b)) (lasts_bytes _) rfl (fun a w hm hd => ⟨wanted_at rfl rfl (hd.at_ 11 rfl rfl rfl), _, ex_move rfl, (by rw [hm.outer 0 (by kernel_rfl)]; exact HU1.grown0 hm.grow)⟩) ?_
        refine Steps.val (G := Is (.string ⟨(b).toArray⟩)) (lasts_is _) rfl (fun a w hm hd => ⟨wanted_at rfl rfl (hd.at_ 11 rfl rfl rfl), _, ex_conv rfl (hd.at_ 16 rfl rfl rfl), rfl⟩) ?_
        refine Steps.val (G := IsB (x)) (lasts_bytes _) rfl (fun a w hm hd => ⟨wanted_at rfl rfl (hd.at_ 11 rfl rfl rfl), _, ex_move rfl, (by rw [hm.outer 1 (by kernel_rfl)]; exact HV1.grown0 hm.grow)⟩) ?_
        refine Steps.call (G := IsB (enc x.length ++ x)) (lasts_bytes _) rfl 14 (fun a w hm hd => ⟨wanted_at rfl rfl (hd.at_ 11 rfl rfl rfl), _, ex_call1 Try.func14 (by kernel_rfl) (by kernel_rfl) rfl, st_refBytes (hd.at_ 18 rfl rfl rfl) (by omega)⟩) ?_
        refine Steps.val (G := Is (.string ⟨(enc x.length ++ x).toArray⟩)) (lasts_is _) rfl (fun a w hm hd => ⟨wanted_at rfl rfl (hd.at_ 11 rfl rfl rfl), _, ex_conv rfl (hd.at_ 19 rfl rfl rfl), rfl⟩) ?_
        refine Steps.val (G := Is (.string ⟨(b ++ (enc x.length ++ x)).toArray⟩)) (lasts_is _) rfl (fun a w hm hd => ⟨wanted_at rfl rfl (hd.at_ 11 rfl rfl rfl), _, ex_add rfl (hd.at_ 17 rfl rfl rfl) (hd.at_ 20 rfl rfl rfl) (by have := HL.out; (try simp only [List.length_append]); omega), rfl⟩) ?_
        refine Steps.val (G := Is (.bool true)) (lasts_is _) rfl (fun a w hm hd => ⟨wanted_at rfl rfl (hd.at_ 11 rfl rfl rfl), _, ex_eqs rfl (hd.at_ 15 rfl rfl rfl) (hd.at_ 21 rfl rfl rfl), rfl⟩) ?_
        refine Steps.val (G := Is (.bool true)) (lasts_is _) rfl (fun a w hm hd => ⟨wanted_plain rfl, _, ex_pick rfl (hd.at_ 11 rfl rfl rfl) (hd.at_ 22 rfl rfl rfl), rfl⟩) ?_
        refine Steps.val (G := Is (.bool true)) (lasts_is _) rfl (fun a w hm hd => ⟨wanted_plain rfl, _, ex_move rfl, (hd.at_ 23 rfl rfl rfl)⟩) ?_
        refine Steps.val (G := IsB (b)) (lasts_bytes _) rfl (fun a w hm hd => ⟨wanted_at rfl rfl (hd.at_ 24 rfl rfl rfl), _, ex_move rfl, (by rw [hm.outer 11 (by kernel_rfl)]; exact HO.grown0 hm.grow)⟩) ?_
        refine Steps.val (G := Is (.int .u64 m)) (lasts_is _) rfl (fun a w hm hd => ⟨wanted_at rfl rfl (hd.at_ 24 rfl rfl rfl), _, ex_move rfl, (by rw [hm.outer 3 (by kernel_rfl)]; exact rfl)⟩) ?_
        refine Steps.val (G := Is (.int .i64 k)) (lasts_is _) rfl (fun a w hm hd => ⟨wanted_at rfl rfl (hd.at_ 24 rfl rfl rfl), _, ex_move rfl, (by rw [hm.outer 4 (by kernel_rfl)]; exact rfl)⟩) ?_
        refine Steps.call (G := IsB (b ++ low (wid k) m)) (lasts_bytes _) rfl 15 (fun a w hm hd => ⟨wanted_at rfl rfl (hd.at_ 24 rfl rfl rfl), _, ex_call3 Try.func15 (by kernel_rfl) (by kernel_rfl) rfl, st_fixed (hd.at_ 25 rfl rfl rfl) (hd.at_ 26 rfl rfl rfl) (hd.at_ 27 rfl rfl rfl) (by omega) HM.out⟩) ?_
        refine Steps.val (G := Is (.string ⟨(b ++ low (wid k) m).toArray⟩)) (lasts_is _) rfl (fun a w hm hd => ⟨wanted_at rfl rfl (hd.at_ 24 rfl rfl rfl), _, ex_conv rfl (hd.at_ 28 rfl rfl rfl), rfl⟩) ?_
        refine Steps.val (G := IsB (b)) (lasts_bytes _) rfl (fun a w hm hd => ⟨wanted_at rfl rfl (hd.at_ 24 rfl rfl rfl), _, ex_move rfl, (by rw [hm.outer 0 (by kernel_rfl)]; exact HU1.grown0 hm.grow)⟩) ?_
        refine Steps.val (G := Is (.string ⟨(b).toArray⟩)) (lasts_is _) rfl (fun a w hm hd => ⟨wanted_at rfl rfl (hd.at_ 24 rfl rfl rfl), _, ex_conv rfl (hd.at_ 30 rfl rfl rfl), rfl⟩) ?_
        refine Steps.val (G := Is (.int .u64 m)) (lasts_is _) rfl (fun a w hm hd => ⟨wanted_at rfl rfl (hd.at_ 24 rfl rfl rfl), _, ex_move rfl, (by rw [hm.outer 3 (by kernel_rfl)]; exact rfl)⟩) ?_
        refine Steps.val (G := Is (.int .i64 k)) (lasts_is _) rfl (fun a w hm hd => ⟨wanted_at rfl rfl (hd.at_ 24 rfl rfl rfl), _, ex_move rfl, (by rw [hm.outer 4 (by kernel_rfl)]; exact rfl)⟩) ?_
        refine Steps.call (G := IsB (low (wid k) m)) (lasts_bytes _) rfl 16 (fun a w hm hd => ⟨wanted_at rfl rfl (hd.at_ 24 rfl rfl rfl), _, ex_call2 Try.func16 (by kernel_rfl) (by kernel_rfl) rfl, st_refFixed (hd.at_ 32 rfl rfl rfl) (hd.at_ 33 rfl rfl rfl) HM.out⟩) ?_
        refine Steps.val (G := Is (.string ⟨(low (wid k) m).toArray⟩)) (lasts_is _) rfl (fun a w hm hd => ⟨wanted_at rfl rfl (hd.at_ 24 rfl rfl rfl), _, ex_conv rfl (hd.at_ 34 rfl rfl rfl), rfl⟩) ?_
        refine Steps.val (G := Is (.string ⟨(b ++ low (wid k) m).toArray⟩)) (lasts_is _) rfl (fun a w hm hd => ⟨wanted_at rfl rfl (hd.at_ 24 rfl rfl rfl), _, ex_add rfl (hd.at_ 31 rfl rfl rfl) (hd.at_ 35 rfl rfl rfl) (by have := HL.out; (try simp only [List.length_append]); omega), rfl⟩) ?_
        refine Steps.val (G := Is (.bool true)) (lasts_is _) rfl (fun a w hm hd => ⟨wanted_at rfl rfl (hd.at_ 24 rfl rfl rfl), _, ex_eqs rfl (hd.at_ 29 rfl rfl rfl) (hd.at_ 36 rfl rfl rfl), rfl⟩) ?_
        refine Steps.val (G := Is (.bool true)) (lasts_is _) rfl (fun a w hm hd => ⟨wanted_plain rfl, _, ex_pick rfl (hd.at_ 24 rfl rfl rfl) (hd.at_ 37 rfl rfl rfl), rfl⟩) ?_
        refine Steps.val (G := Is (.bool true)) (lasts_is _) rfl (fun a w hm hd => ⟨wanted_plain rfl, _, ex_move rfl, (hd.at_ 38 rfl rfl rfl)⟩) ?_
        refine Steps.val (G := IsB (b)) (lasts_bytes _) rfl (fun a w hm hd => ⟨wanted_at rfl rfl (hd.at_ 39 rfl rfl rfl), _, ex_move rfl, (by rw [hm.outer 11 (by kernel_rfl)]; exact HO.grown0 hm.grow)⟩) ?_
        refine Steps.val (G := Is (.string ⟨(b).toArray⟩)) (lasts_is _) rfl (fun a w hm hd => ⟨wanted_at rfl rfl (hd.at_ 39 rfl rfl rfl), _, ex_conv rfl (hd.at_ 40 rfl rfl rfl), rfl⟩) ?_
        refine Steps.val (G := IsB (b)) (lasts_bytes _) rfl (fun a w hm hd => ⟨wanted_at rfl rfl (hd.at_ 39 rfl rfl rfl), _, ex_move rfl, (by rw [hm.outer 0 (by kernel_rfl)]; exact HU1.grown0 hm.grow)⟩) ?_
        refine Steps.val (G := Is (.string ⟨(b).toArray⟩)) (lasts_is _) rfl (fun a w hm hd => ⟨wanted_at rfl rfl (hd.at_ 39 rfl rfl rfl), _, ex_conv rfl (hd.at_ 42 rfl rfl rfl), rfl⟩) ?_
        refine Steps.val (G := Is (.bool true)) (lasts_is _) rfl (fun a w hm hd => ⟨wanted_at rfl rfl (hd.at_ 39 rfl rfl rfl), _, ex_eqs rfl (hd.at_ 41 rfl rfl rfl) (hd.at_ 43 rfl rfl rfl), rfl⟩) ?_
        refine Steps.val (G := Is (.bool true)) (lasts_is _) rfl (fun a w hm hd => ⟨wanted_plain rfl, _, ex_pick rfl (hd.at_ 39 rfl rfl rfl) (hd.at_ 44 rfl rfl rfl), rfl⟩) ?_
        refine Steps.val (G := Is (.bool true)) (lasts_is _) rfl (fun a w hm hd => ⟨wanted_plain rfl, _, ex_move rfl, (hd.at_ 45 rfl rfl rfl)⟩) ?_
        refine Steps.call (G := Is (.bool true)) (lasts_is _) rfl 10 (fun a w hm hd => ⟨wanted_at rfl rfl (hd.at_ 46 rfl rfl rfl), _, ex_call0 Try.func10 (by kernel_rfl) (by kernel_rfl) rfl, awake_step w⟩) ?_
        refine Steps.val (G := Is (.bool true)) (lasts_is _) rfl (fun a w hm hd => ⟨wanted_plain rfl, _, ex_pick rfl (hd.at_ 46 rfl rfl rfl) (hd.at_ 47 rfl rfl rfl), rfl⟩) ?_
        refine Steps.val (G := Is (.bool true)) (lasts_is _) rfl (fun a w hm hd => ⟨wanted_plain rfl, _, ex_assign rfl, (hd.at_ 48 rfl rfl rfl)⟩) ?_
        intro a w2 hmid hall
        have h10 : a.eval (.tmp 10) = .bool true := hall 49 _ 10 rfl rfl
        have hdf : a.defers = [] := hmid.defers
        have hgr := hmid.grow
        clear hall hmid
        obtain ⟨tm, df⟩ := a
        simp only at hdf
        subst hdf
        go_wp2
        go_ret
        exact ⟨congrArg Ending.returned h10, HG.out.trans hgr⟩
theorem puts_walk' (u v : Value) (b x : List UInt8) (n m k : Int) (w : World) (hu : Rd w u (bytesV b)) (hv : Rd w v (bytesV x)) (hm : 0 ≤ m ∧ m < 18446744073709551616) :
    Calls Try.prog 3 #[u, v, .int .i64 n, .int .u64 m, .int .i64 k] w (Awake w) := by
  obtain ⟨M, rfl⟩ := Int.eq_ofNat_of_zero_le hm.1
  exact puts_walk u v b x n M k w hu hv (by omega)
end Go.Proofs.Ytldambmhclgpoaa
