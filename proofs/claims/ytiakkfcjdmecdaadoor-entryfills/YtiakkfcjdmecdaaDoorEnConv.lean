/-
  []byte(a string), as an operation.
-/
import Derived.Test.YtiakkfcjdmecdaaDoorEnM
import Derived.Test.YtiakkfcjdmecdaaDoorAppBytes
import Derived.Laws.IdiomStrings
namespace Go.Proofs.YtiakkfcjdmecdaaDoor
set_option maxRecDepth 1000000
open Go.RowKit

theorem bts_dsize (l : List UInt8) : (bts l).data.size = l.length := bts_size l
theorem run_bytesOf (w : World) (l : List UInt8) (hl : l.length ≤ 1000000000000) :
    ∃ v w', (convert 9 45 (.string (bts l))).run Tryd.prog w = .ok v w' ∧ Rd w' v (bytesV l) ∧ w.grownBy w' none ∧ v.ownBlock = some w.heap.size := by
  refine ⟨_, _, run_bytes_of_string w 9 45 5 (bts l) Tryd.underlying9 Tryd.underlying45 Tryd.underlying5, ?_, ?_, ?_⟩
  · have hs : (bts l).size = l.length := bts_size l
    have hge := grownCap_ge w (bts l).size 0 5
    have hle := grownCap_le_maxLen w (bts l).size 0 5 (by rw [hs]; simp only [maxLen]; omega)
    generalize grownCap w (bts l).size 0 5 = c at *
    refine ⟨some ⟨w.heap.size, 0, none⟩, c, by rw [bytesV_len, hs], by rw [bytesV_len]; omega, hle, fun _ => ⟨_, rfl, fun j u hu => ?_⟩⟩
    obtain ⟨hj, he⟩ := List.getElem?_eq_some_iff.1 hu
    have e1 : (⟨w.heap.size, 0, none⟩ : Addr).add j = ⟨w.heap.size, j, none⟩ := by unfold Addr.add; split <;> simp_all
    have hcell : ∀ (C : Array Value) (t : TypeId) (mk : Nat × Nat), (w.drew.alloc (.cells C t mk)).cell? ⟨w.heap.size, j, none⟩ = C[j]? := fun C t mk => World.cell?_alloc_mark w.drew C t mk j
    rw [e1, hcell]
    have hj2 : j < (bts l).data.size := by rw [bts_dsize]; rw [bytesV_len] at hj; exact hj
    rw [bytesRow_at (bts l) c j hj2, ← he]
    simp [bytesV, byteV, bts]
  · exact grown_alloc (grown_drew (grown_refl _ _)) _
  · rfl
theorem wpList_bytesOf (w : World) {ops : Array Oper} {rest : List Oper} {o : Oper} {a : Act} {Q : Exit → Act → World → Prop} (hgd : o.guard = none) (x : Operand)
    (ho : o.op = .convert 9 45 x) (l : List UInt8) (hx : a.eval x = .string (bts l)) (hl : l.length ≤ 1000000000000)
    (h : ∀ v w', Rd w' v (bytesV l) → w.grownBy w' none → wpList Tryd.prog ops Q rest (a.put o.dst v) w') : wpList Tryd.prog ops Q (o :: rest) a w := by
  obtain ⟨v, w', hrun, hr, hg, _⟩ := run_bytesOf w l hl
  exact wpList_plain hgd fun _ hK => by
    unfold Oper.wp execOp
    simp only [ho, hx, Sem.run_bind, hrun, Result.andThen_ok, Sem.run_pure]
    exact hK _ _ (h v w' hr hg)
end Go.Proofs.YtiakkfcjdmecdaaDoor
