/-
  The document's own 'times' over this program: two numbers in parts, multiplied.
-/
import Derived.Test.YtmhcfbfdbminnaaDoorAppInts
import Derived.Test.YtmhcfbfdbminnaaDoorRow
import Derived.Test.YtmhcfbfdbminnaaDoorRootN
import Derived.BigRegion
namespace Go.Proofs.YtmhcfbfdbminnaaDoor
open Go.RowKit

theorem Row.rd {w : World} {g : Nat} {t : TypeId} {cs : List Value} (h : Row w g t cs) (n c : Nat) (hn : cs.length = n) (hc : n ≤ c) (hm : c ≤ maxLen) : Rd w (.slice (some ⟨g, 0, none⟩) n c) cs := by
  subst hn
  refine ⟨_, c, rfl, hc, hm, fun _ => ⟨_, rfl, fun j u hu => ?_⟩⟩
  have : (⟨g, 0, none⟩ : Addr).add j = ⟨g, j, none⟩ := by unfold Addr.add; split <;> simp_all
  rw [this]
  exact h.cell hu
/-- make of numbers. -/
theorem wpList_make_ints (w : World) {ops : Array Oper} {rest : List Oper} {o : Oper} {a : Act} {Q : Exit → Act → World → Prop} (hgd : o.guard = none) (x y : Operand) (ho : o.op = .makeSlice 53 x y)
    (n : Nat) (hx : a.eval x = .int .i64 (n : Int)) (hy : a.eval y = .int .i64 (n : Int)) (hc : n ≤ 1000000)
    (h : ∀ w', Row w' w.heap.size 3 (intsV (List.replicate n 0)) → w.grownBy w' none → wpList Tryd.prog ops Q rest (a.put o.dst (.slice (some ⟨w.heap.size, 0, none⟩) n n)) w') : wpList Tryd.prog ops Q (o :: rest) a w :=
  wpList_plain hgd fun _ hK => by
    obtain ⟨i, hi, hz, hs1, hb⟩ := infoInt
    have hr := run_make (P := Tryd.prog) w 53 3 i (.int .i64 0) Tryd.underlying53 hi hz .i64 .i64 n n (by omega) (by omega) (by rw [hb]; omega) (by omega)
    simp only [Int.toNat_natCast, hs1, Nat.mul_one] at hr
    have e : madeCells (Value.int .i64 0).cells n = (intsV (List.replicate n 0)).toArray := by
      have h1 := toList_madeCells_one (.int .i64 0) n
      rw [show (Value.int IntKind.i64 0).cells = #[.int .i64 0] from rfl]
      apply Array.ext'
      rw [h1]
      simp [intsV, intV]
    rw [e] at hr
    unfold Oper.wp execOp
    simp only [ho, hx, hy, Sem.run_bind, hr, Result.andThen_ok, Sem.run_pure]
    rw [Oper.upon_value]
    exact hK _ _ (h _ (Row.new w 3 _) (grown_alloc (grown_refl _ _) _))

theorem cell_other (w : World) (g i j : Nat) (v : Value) (h : i ≠ j) : (w.setCell ⟨g, i, none⟩ v).cell? ⟨g, j, none⟩ = w.cell? ⟨g, j, none⟩ := by
  apply World.cell?_setCell_other
  exact fun e => h (by injection e)

set_option maxHeartbeats 4000000 in
theorem times_any (v1 v2 : Value) (a b : List Nat) (A : Nat) (w : World) (h1 : Rd w v1 (intsV a)) (h2 : Rd w v2 (intsV b)) (ha : allLe a A) (hb : allLe b 65535) (hA : 1 ≤ A) (hA2 : A ≤ 68719476736) (hla : a.length ≤ 6) (hlb : b.length ≤ 6) (hl0 : 0 < b.length) :
    Calls Tryd.prog 43 #[v1, v2] w (OutI w (timesN a b)) := by
  have H1 := Lib.hid h1
  have H2 := Lib.hid h2
  have HA := Lib.hid ha
  have HB := Lib.hid hb
  obtain ⟨A1, c1, rfl⟩ := h1.form
  obtain ⟨A2, c2, rfl⟩ := h2.form
  have hc1 := h1.len.2
  have hc2 := h2.len.2
  simp only [intsV_len] at *
  unfold maxLen at hc1 hc2
  generalize hn1 : a.length = n1 at *
  generalize hn2 : b.length = n2 at *
  have HN1 := Lib.hid hn1
  have HN2 := Lib.hid hn2
  clear h1 h2 ha hb hn1 hn2
  go_enter Tryd.func43, Tryd.ntmps43
  go_wp2_with (refine wpList_make_ints _ rfl _ _ rfl (n1 + n2) ?_ ?_ ?_ ?_)
  · exact congrArg (Value.int .i64) (show ((n1 : Int) + (n2 : Int)) = ((n1 + n2 : Nat) : Int) by omega)
  · exact congrArg (Value.int .i64) (show ((n1 : Int) + (n2 : Int)) = ((n1 + n2 : Nat) : Int) by omega)
  · omega
  intro w1 hr1 hg1
  have R1 := Lib.hid hr1
  have HG1 := Lib.hid hg1
  clear hr1 hg1
  generalize hg : w.heap.size = g at *
  have HG := Lib.hid hg
  clear hg
  go_wp2
  go_loopw [6] (fun i W => ∃ k : Nat, k ≤ n1 ∧ i = .int .i64 k ∧ Row W g 3 (intsV (timesK a b k)) ∧ w.grownBy W none) (fun i _ => n1 - (intOf i).toNat)
  case atStart => exact ⟨0, Nat.zero_le _, rfl, by unfold timesK; rw [HN1.out, HN2.out]; exact R1.out, HG1.out⟩
  case round =>
    clear R1 HG1
    obtain ⟨i, hi, rfl, hrow, hgr⟩ := hrel
    have R := Lib.hid hrow
    have GR := Lib.hid hgr
    clear hrow hgr
    by_cases hlt : i < n1
    · have hB := times_le a b A hA HA.out HB.out i (by omega)
      have hL := times_len a b i
      have hst : timesK a b (i + 1) = carryN (n1 + n2 - 1) (innerN (a.getD i 0) b i n2 (timesK a b i)) := by
        show carryN (a.length + b.length - 1) (innerN (a.getD i 0) b i b.length (timesK a b i)) = _
        rw [HN1.out, HN2.out]
      rw [HN1.out, HN2.out] at hL
      have hiA : 65535 + i * (131072 * A) ≤ 65535 + 6 * (131072 * A) := by
        have := Nat.mul_le_mul_right (131072 * A) (show i ≤ 6 by omega)
        omega
      have hB' : allLe (timesK a b i) (65535 + 6 * (131072 * A)) := fun k => Nat.le_trans (hB k) hiA
      generalize timesK a b i = o at *
      have hxA := HA.out i
      have hin := fun j => inner_le (a.getD i 0) b i o A _ hxA HB.out hB' j
      obtain ⟨ad1, rfl, hca⟩ := (H1.out.grown0 GR.out).num i (by rw [HN1.out]; exact hlt)
      have HST := Lib.hid hst
      have HIN := Lib.hid hin
      have HL := Lib.hid hL
      clear hB hB' hst hin hL hiA
      generalize hxx : a.getD i 0 = x at *
      have HXX := Lib.hid hxx
      clear hca hxx
      go_wp2
      go_loopw [7] (fun q W => ∃ k : Nat, k ≤ n2 ∧ q = .int .i64 k ∧ Row W g 3 (intsV (innerN x b i k o)) ∧ w.grownBy W none) (fun q _ => n2 - (intOf q).toNat)
      case atStart => exact ⟨0, Nat.zero_le _, rfl, R.out, GR.out⟩
      case round =>
        clear R GR
        obtain ⟨j, hj, rfl, hrow, hgr⟩ := hrel
        have R := Lib.hid hrow
        have GR := Lib.hid hgr
        have hlen : (innerN x b i j o).length = n1 + n2 := by rw [inner_len, HL.out]
        by_cases hlj : j < n2
        · obtain ⟨ad1', he1, hca⟩ := (H1.out.grown0 GR.out).num i (by rw [HN1.out]; exact hlt)
          cases he1
          obtain ⟨ad2, rfl, hcb⟩ := (H2.out.grown0 GR.out).num j (by rw [HN2.out]; exact hlj)
          rw [HXX.out] at hca
          have hy := HB.out j
          have hin := HIN.out j (i + j)
          have hco := hrow.cell (intsV_at _ (i + j) (by rw [hlen]; omega))
          have hfz := hrow.frozen (i + j)
          have HS := Lib.hid (show innerN x b i (j + 1) o = (innerN x b i j o).set (i + j) ((innerN x b i j o).getD (i + j) 0 + x * b.getD j 0) from rfl)
          generalize hyy : b.getD j 0 = y at *
          generalize hoo : (innerN x b i j o).getD (i + j) 0 = z at *
          have hxy : x * y ≤ A * 65535 := Nat.mul_le_mul hxA hy
          have hpr : (x : Int) * (y : Int) = ((x * y : Nat) : Int) := (Int.natCast_mul x y).symm
          generalize x * y = q at *
          have HROW := Lib.hid hrow
          clear hrow hgr hyy hoo hlen
          go_wp2
          go_region
          go_wp2
          go_roundw
          case rel =>
            refine ⟨j + 1, by omega, by go_num, ?_, grown_drew (grown_own GR.out (grown_set wr g (i + j) _) (by have := HG.out; omega))⟩
            have := HROW.out.set (i + j) (.int .i64 ((z + q : Nat) : Int))
            rw [intsV_set, ← HS.out] at this
            rw [show ((z : Int) + (q : Int)) = ((z + q : Nat) : Int) by omega]
            exact this
          case measure => simp [intOf]; omega
        · have hj2 : j = n2 := by omega
          rw [hj2] at R
          have hM := HIN.out n2
          have hLL : (innerN x b i n2 o).length = n1 + n2 := by rw [inner_len, HL.out]
          generalize innerN x b i n2 o = o2 at *
          have hcl := carry_le o2 _ (by omega) hM
          have HCL := Lib.hid hcl
          have HLL := Lib.hid hLL
          have hAA : 65535 + 6 * (131072 * A) + A * 65535 ≤ 100000000000000000 := by omega
          have HAA := Lib.hid hAA
          clear hrow hgr hlen hj2 hM hcl hLL hAA
          go_wp2
          go_loopw [8] (fun q W => ∃ k : Nat, k ≤ n1 + n2 - 1 ∧ q = .int .i64 k ∧ Row W g 3 (intsV (carryN k o2)) ∧ w.grownBy W none) (fun q _ => n1 + n2 - (intOf q).toNat)
          case atStart => exact ⟨0, Nat.zero_le _, rfl, R.out, GR.out⟩
          case round =>
            clear R GR
            obtain ⟨k, hk, rfl, hrow, hgr⟩ := hrel
            have R := Lib.hid hrow
            have GR := Lib.hid hgr
            have hlen : (carryN k o2).length = n1 + n2 := by rw [carry_len, HLL.out]
            by_cases hlk : k < n1 + n2 - 1
            · have ck := hrow.cell (intsV_at _ k (by rw [hlen]; omega))
              have ck1 := hrow.cell (intsV_at _ (k + 1) (by rw [hlen]; omega))
              have fk := hrow.frozen k
              have fk1 := hrow.frozen (k + 1)
              have b1 := HCL.out k k
              have b2 := HCL.out k (k + 1)
              have HS := Lib.hid (show carryN (k + 1) o2 = ((carryN k o2).set (k + 1) ((carryN k o2).getD (k + 1) 0 + (carryN k o2).getD k 0 / 65536)).set k ((carryN k o2).getD k 0 % 65536) from rfl)
              generalize (carryN k o2).getD k 0 = z0 at *
              generalize (carryN k o2).getD (k + 1) 0 = z1 at *
              have b1' : z0 ≤ 200000000000000000 := by have := HAA.out; omega
              have b2' : z1 ≤ 200000000000000000 := by have := HAA.out; omega
              have d1 : ∀ v, (wr.setCell ⟨g, k + 1, none⟩ v).cell? ⟨g, k, none⟩ = some (.int .i64 (z0 : Int)) := fun v => by rw [cell_other _ _ _ _ _ (by omega), ck]
              clear hrow hgr hlen b1 b2
              go_wp2
              go_region
              go_wp2
              go_roundw
              case rel =>
                refine ⟨k + 1, by omega, by go_num, ?_, ?_⟩
                · have := (R.out.set (k + 1) (.int .i64 ((z1 + z0 / 65536 : Nat) : Int))).set k (.int .i64 ((z0 % 65536 : Nat) : Int))
                  rw [intsV_set, intsV_set, ← HS.out] at this
                  exact this
                · exact grown_drew (grown_own (grown_own GR.out (grown_set wr g (k + 1) _) (by have := HG.out; omega)) (grown_set _ g k _) (by have := HG.out; omega))
              case measure => simp [intOf]; omega
            · have hk2 : k = n1 + n2 - 1 := by omega
              rw [hk2, ← HST.out] at R
              clear hrow hgr hlen hk2
              go_wp2
              go_roundw
              case rel => exact ⟨i + 1, by omega, by go_num, R.out, GR.out⟩
              case measure => simp [intOf]; omega
    · have hin : i = n1 := by omega
      have hT : timesK a b i = timesN a b := by unfold timesN; rw [HN1.out, hin]
      have hL := times_len a b i
      rw [HN1.out, HN2.out] at hL
      rw [hT] at R hL
      clear hT hin
      go_wp2
      go_ret
      exact ⟨_, rfl, R.out.rd _ _ (by rw [intsV_len, hL]) (Nat.le_refl _) (by unfold maxLen; omega), GR.out⟩
end Go.Proofs.YtmhcfbfdbminnaaDoor
