/-
  make and copy of bytes (of no layer).
-/
import Derived.Test.YtjcbdplbekecjaaRow
import Derived.Test.YtjcbdplbekecjaaAppBytes
namespace Go.Proofs.Ytjcbdplbekecjaa
open Go.RowKit

theorem run_make_bytes (w : World) (n : Nat) (hc : n ≤ 1000000000000) : (Instr.makeSlice 24 (.int .i64 (n : Int)) (.int .i64 (n : Int))).run Try.prog w = .ok (.slice (some ⟨w.heap.size, 0, none⟩) n n) (w.alloc (.cells (bytesV (List.replicate n 0)).toArray 5)) := by
  obtain ⟨i, hi, hz, hs1, hb⟩ := infoByte
  have hr := run_make (P := Try.prog) w 24 5 i (.int .u8 0) Try.underlying24 hi hz .i64 .i64 n n (by omega) (by omega) (by rw [hb]; omega) (by omega)
  simp only [Int.toNat_natCast, hs1, Nat.mul_one] at hr
  have e : madeCells (Value.int .u8 0).cells n = (bytesV (List.replicate n 0)).toArray := by
    have h1 := toList_madeCells_one (.int .u8 0) n
    rw [show (Value.int IntKind.u8 0).cells = #[.int .u8 0] from rfl]
    apply Array.ext'
    rw [h1]
    simp [bytesV, byteV]
  rw [e] at hr
  exact hr
theorem wpList_make_bytes (w : World) {ops : Array Oper} {rest : List Oper} {o : Oper} {a : Act} {Q : Exit → Act → World → Prop} (hgd : o.guard = none) (x y : Operand) (ho : o.op = .makeSlice 24 x y)
    (n : Nat) (hx : a.eval x = .int .i64 (n : Int)) (hy : a.eval y = .int .i64 (n : Int)) (hc : n ≤ 1000000000000)
    (h : ∀ w', Row w' w.heap.size 5 (bytesV (List.replicate n 0)) → w.grownBy w' none → wpList Try.prog ops Q rest (a.put o.dst (.slice (some ⟨w.heap.size, 0, none⟩) n n)) w') : wpList Try.prog ops Q (o :: rest) a w :=
  wpList_plain hgd fun _ hK => by
    have hr := run_make_bytes w n hc
    unfold Oper.wp execOp
    simp only [ho, hx, hy, Sem.run_bind, hr, Result.andThen_ok, Sem.run_pure]
    rw [Oper.upon_value]
    exact hK _ _ (h _ (Row.new w 5 _) (grown_alloc (grown_refl _ _) _))

/-- copy of bytes into a row of as many. -/
theorem run_copy_all (w : World) (ty : TypeId) (g dLen dCap : Nat) (u : Value) (l : List UInt8) (hr : Rd w u (bytesV l)) (cur : List Value) (t : TypeId) (hg : Row w g t cur) (hd : l.length = dLen) (hfit : cur.length = dLen) :
    ∃ w', (Builtin.copy_ #[24, 24] ty #[.slice (some ⟨g, 0, none⟩) dLen dCap, u]).run Try.prog w = .ok (.int .i64 (dLen : Int)) w' ∧ Row w' g t (bytesV l) ∧ w.grownBy w' (some g) := by
  obtain ⟨A, c, rfl, hlc, hcm, hcell⟩ := hr
  cases A with
  | none =>
    have hn : l = [] := by
      rcases l with _ | ⟨x, l⟩
      · rfl
      · obtain ⟨ad, h, _⟩ := hcell (by simp [bytesV]); cases h
    subst hn
    have hcur : cur = [] := List.eq_nil_of_length_eq_zero (by rw [hfit, ← hd]; rfl)
    subst hcur
    have hd0 : dLen = 0 := hd.symm
    subst hd0
    refine ⟨w, ?_, hg, grown_refl _ _⟩
    have hi : (sizeOf 5).run Try.prog w = .ok 1 w := by kernel_rfl
    simp [Builtin.copy_, run_underlying Try.underlying24, Builtin.lenOf, Builtin.firstCells, hi, storeCells, bytesV, goInt]
  | some ad =>
    have hcells : ∀ j v, (bytesV l)[j]? = some v → w.cell? (ad.add j) = some v := by
      intro j v hv
      have hne : bytesV l ≠ [] := by intro e; rw [e] at hv; cases hv
      obtain ⟨ad', h, hc⟩ := hcell hne
      injection h with h
      subst h
      exact hc j v hv
    have hlen : (bytesV l).length = Nat.min (bytesV l).length dLen := by
      rw [bytesV_len, hd]
      exact (Nat.min_self dLen).symm
    have hrun := run_copy_row (P := Try.prog) w 24 24 ty 5 g 0 dLen dCap ad (bytesV l).length c cur.toArray t (bytesV l) Try.underlying24 (by kernel_rfl) hg hlen hcells (by
      simp only [List.size_toArray, bytesV_len]; omega) (bytesV_one _)
    have e : cur.toArray.toList.take 0 ++ bytesV l ++ cur.toArray.toList.drop (0 + (bytesV l).length) = bytesV l := by
      rw [bytesV_len, Nat.zero_add, hd]
      simp [← hfit]
    have hgi : goInt ((bytesV l).length : Int) = .int .i64 (dLen : Int) := by rw [bytesV_len, hd]; rfl
    rw [e, hgi] at hrun
    exact ⟨w.setRow g (bytesV l).toArray, hrun, Row.setRow hg _, grown_setRow w g _⟩
end Go.Proofs.Ytjcbdplbekecjaa
