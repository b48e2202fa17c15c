/-
  The document's own Times over this program.
-/
import Derived.Test.YtnekdjejbobmoaaRpSmall
namespace Go.Proofs.Ytnekdjejbobmoaa
open Go.RowKit

/-- make of numbers. -/
theorem wpList_make_ints (w : World) {ops : Array Oper} {rest : List Oper} {o : Oper} {a : Act} {Q : Exit → Act → World → Prop} (hgd : o.guard = none) (x y : Operand) (ho : o.op = .makeSlice 29 x y)
    (n : Nat) (hx : a.eval x = .int .i64 (n : Int)) (hy : a.eval y = .int .i64 (n : Int)) (hc : n ≤ 1000000)
    (h : ∀ w', Row w' w.heap.size 3 (intsV (List.replicate n 0)) → w.grownBy w' none → wpList Try.prog ops Q rest (a.put o.dst (.slice (some ⟨w.heap.size, 0, none⟩) n n)) w') : wpList Try.prog ops Q (o :: rest) a w :=
  wpList_plain hgd fun _ hK => by
    obtain ⟨i, hi, hz, hs1, hb⟩ := infoInt
    have hr := run_make (P := Try.prog) w 29 3 i (.int .i64 0) Try.underlying29 hi hz .i64 .i64 n n (by omega) (by omega) (by rw [hb]; omega) (by omega)
    simp only [Int.toNat_natCast, hs1, Nat.mul_one] at hr
    have e : madeCells (Value.int .i64 0).cells n = (intsV (List.replicate n 0)).toArray := by
      have h1 := toList_madeCells_one (.int .i64 0) n
      rw [show (Value.int IntKind.i64 0).cells = #[.int .i64 0] from rfl]
      apply Array.ext'
      rw [h1]
      simp [intsV, intV]
    rw [e] at hr
    unfold Oper.wp execOp
    simp only [ho, hx, hy, Sem.run_bind, hr, Result.andThen_ok, Sem.run_pure]
    rw [Oper.upon_value]
    exact hK _ _ (h _ (Row.new w 3 _) (grown_alloc (grown_refl _ _) _))
theorem slice_17 (A : Option Addr) (c : Nat) (hc : 18 ≤ c) (w : World) : (Instr.sliceAt 29 (.slice A 18 c) none (some (.int .i64 17)) none).run Try.prog w = .ok (.slice A 17 c) w := by
  simp [Instr.sliceAt, go_sem, Instr.sliceBounds, Instr.slice, run_underlying Try.underlying29]
  omega

set_option maxHeartbeats 8000000 in
theorem rtimes_any (va vr : Value) (a : Nat) (ha : a < 256 ^ 17) (r : List UInt8) (h16 : r.length = 16) (w : World) (h1 : Rd w va (intsV (digs 256 18 a))) (h2 : Rd w vr (bytesV r)) :
    Calls Try.prog 15 #[va, vr] w (OutI w (digs 256 18 (a * le r % PP))) := by
  have H1 := Lib.hid h1
  have H2 := Lib.hid h2
  have HA := Lib.hid ha
  have H16 := Lib.hid h16
  obtain ⟨A2, c2, rfl⟩ := h2.form
  rw [bytesV_len, h16] at h2 H2 ⊢
  clear h1 h2 ha h16
  go_enter Try.func15, Try.ntmps15
  go_wp2_with (refine wpList_make_ints _ rfl _ _ rfl 18 rfl rfl (by decide) ?_; intro w1 hr1 hg1)
  have HR1 := Lib.hid (hr1.rds 18 18 (by rw [intsV_len]; rfl) (by decide) (by decide))
  have HG1 := Lib.hid hg1
  clear hr1 hg1
  go_loopw [5, 6] (fun o i W => ∃ k : Nat, k ≤ 16 ∧ i = .int .i64 ((k : Int) - 1) ∧ Rd W o (intsV (digs 256 18 (a * le (r.drop k) % PP))) ∧ w.grownBy W none) (fun _ i _ => (intOf i + 1).toNat)
  case atStart =>
    refine ⟨16, Nat.le_refl _, by first | go_num | rfl, ?_, HG1.out⟩
    rw [List.drop_of_length_le (by rw [H16.out]; exact Nat.le_refl _), show le [] = 0 from rfl, Nat.mul_zero, Nat.zero_mod, digs_zero]
    exact HR1.out
  case round =>
    clear HR1 HG1
    obtain ⟨k, hk, rfl, ho, hg⟩ := hrel
    have HO := Lib.hid ho
    have HG := Lib.hid hg
    obtain ⟨A, c, rfl⟩ := ho.form
    have hoc := ho.len.2
    rw [intsV_len, digs_len] at *
    clear ho hg
    cases k with
    | zero =>
      have hq : decide ((0 : Int) ≤ ((0 : Nat) : Int) - 1) = false := by decide
      rw [List.drop_zero] at HO
      go_wp2
      go_ret
      exact ⟨_, rfl, HO.out, HG.out⟩
    | succ k =>
      have hq : (((k + 1 : Nat) : Int) - 1) = (k : Int) := by omega
      rw [hq] at *
      have hls := le_step r k (by rw [H16.out]; omega)
      have hms := mod_shift a (le (r.drop (k + 1))) (r.getD k 0).toNat
      rw [← hls] at hms
      have HMS := Lib.hid hms
      have hlt : a * le (r.drop (k + 1)) % PP < PP := Nat.mod_lt _ (by decide)
      generalize a * le (r.drop (k + 1)) % PP = o at *
      have hsl := slice_17 A c hoc.1
      have HOT := Lib.hid (show Rd wr (.slice A 17 c) (intsV (digs 256 17 o)) by
        have := HO.out.take (n := 17) (d := c) (by decide) (by have := hoc.1; omega) (Nat.le_refl _)
        rw [show (intsV (digs 256 18 o)).take 17 = intsV (digs 256 17 o) by unfold intsV; rw [← List.map_take, take_digs 18 17 o (by decide)]] at this
        exact this)
      have HPO := Lib.hid hlt
      have hpp : PP < 256 ^ 17 := by decide
      have HPP := Lib.hid hpp
      have hcell : ∃ ad, A2 = some ad ∧ ∀ W : World, w.grownBy W none → W.cell? (ad.add k) = some (.int .u8 ((r.getD k 0).toNat : Int)) := by
        obtain ⟨ad, rfl, hcl⟩ := H2.out.cells (by intro e; have := congrArg List.length e; rw [bytesV_len, H16.out] at this; simp at this)
        refine ⟨ad, rfl, fun W hW => ?_⟩
        have hc0 := hcl k _ (bytesV_at r k (by rw [H16.out]; omega))
        exact (World.cell?_of_block (hW.block _ (World.block_lt_of_cell? w _ hc0) (by simp))).trans hc0
      obtain ⟨ad, rfl, hcl⟩ := hcell
      have HCL := Lib.hid hcl
      have hq8 := UInt8.toNat_lt (r.getD k 0)
      generalize (r.getD k 0).toNat = q at *
      clear hls hms hq hlt hpp hcl
      go_wp2_with (at_builtin; refine wpList_append_ints _ rfl _ _ rfl w.heap.size _ 1 _ rfl (own_int1 wr w.heap.size 0 HG.out.size) _ (digs 256 17 o) rfl (HOT.out.grown0 (grown_alloc (grown_refl _ none) _)) ?_ ?_ ?_)
      · rw [digs_len]; decide
      · have := HG.out.size; simp; omega
      intro v2 w2 ho2 hg2 hat
      have HR2 := Lib.hid (show Rd w2 v2 (intsV (digs 256 18 (256 * o))) by
        have := Rd.of_own ho2
        rw [← intsV_app, show [0] ++ digs 256 17 o = digs 256 18 (256 * o) from digs_up 17 o] at this
        exact this)
      have HG2 := Lib.hid (grown_new (grown_alloc HG.out _) hg2 (fun b hb => by cases hb; exact HG.out.size))
      clear ho2 hg2 hat HO HG HOT hsl
      go_wp2_with fail
      refine (mod_any v2 (256 * o) (by have := HPO.out; have := HPP.out; omega) w2 HR2.out).mono ?_
      rintro e w3 ⟨v3, rfl, hr3, hg3⟩
      have HR3 := Lib.hid hr3
      have HG3 := Lib.hid (HG2.out.trans hg3)
      clear hr3 hg3 HR2 HG2
      go_wp2
      go_loopw [5, 8] (fun u i W => ∃ j : Nat, j ≤ q ∧ i = .int .i64 j ∧ Rd W u (intsV (digs 256 18 ((256 * o % PP + j * a) % PP))) ∧ w.grownBy W none) (fun _ i _ => q - (intOf i).toNat)
      case atStart => exact ⟨0, Nat.zero_le _, rfl, by rw [Nat.zero_mul, Nat.add_zero, Nat.mod_mod]; exact HR3.out, HG3.out⟩
      case round =>
        clear HR3 HG3
        obtain ⟨j, hj, rfl, hu, hg⟩ := hrel
        have HU := Lib.hid hu
        have HG := Lib.hid hg
        have hcc := HCL.out wr hg
        clear hu hg
        by_cases hjq : j < q
        · have hd : decide ((j : Int) < (q : Int)) = true := by simp; omega
          have hml : (256 * o % PP + j * a) % PP < PP := Nat.mod_lt _ (by decide)
          have HNX := Lib.hid (show ((256 * o % PP + j * a) % PP + a) % PP = (256 * o % PP + (j + 1) * a) % PP by rw [Nat.mod_add_mod, Nat.add_mul j 1 a, Nat.one_mul, Nat.add_assoc])
          generalize (256 * o % PP + j * a) % PP = t at *
          have HML := Lib.hid hml
          clear hml
          go_wp2_with fail
          refine (add_any _ va (digs 256 18 t) (digs 256 18 a) t a 18 (by decide) wr HU.out (H1.out.grown0 HG.out) (dg_digs 18 t (by have := HML.out; have := HPP.out; omega)) (dg_digs 18 a (by have := HA.out; omega))).mono ?_
          rintro e w4 ⟨v4, rfl, hr4, hg4⟩
          have HR4 := Lib.hid hr4
          have HG4 := Lib.hid (HG.out.trans hg4)
          clear hr4 hg4 HU HG hcc
          go_wp2_with fail
          refine (mod_any v4 (t + a) (by have := HML.out; have := HPP.out; have := HA.out; omega) w4 HR4.out).mono ?_
          rintro e w5 ⟨v5, rfl, hr5, hg5⟩
          rw [HNX.out] at hr5
          have HR5 := Lib.hid hr5
          have HG5 := Lib.hid (HG4.out.trans hg5)
          clear hr5 hg5
          go_wp2
          go_roundw
          case rel => exact ⟨j + 1, by omega, by go_num, HR5.out, HG5.out⟩
          case measure => simp [intOf]; omega
        · obtain rfl : j = q := by omega
          have hd : decide ((j : Int) < (j : Int)) = false := by simp
          rw [HMS.out] at HU
          clear hj hjq
          go_wp2
          go_roundw
          case rel => exact ⟨k, by omega, by go_num, HU.out, HG.out⟩
          case measure => (simp [intOf]; try omega)
end Go.Proofs.Ytnekdjejbobmoaa
