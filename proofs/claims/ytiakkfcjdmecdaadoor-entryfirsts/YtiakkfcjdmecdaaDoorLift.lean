/-
  An argument of type []byte reads as some bytes.
-/
import Derived.Test.YtiakkfcjdmecdaaDoorLiftBase
namespace Go.Proofs.YtiakkfcjdmecdaaDoor
set_option maxRecDepth 1000000
open Go.ChangeShapes Go.WideShapes Go.ChangeAt Go.RowKit

/-- An argument of type []byte reads as some bytes. -/
theorem open_bytes {H : Type} {enc : TypeId × Value → H} {W : World} {a : Option Addr} {len cap : Nat} {d : DataW H} {p : List MemPlace}
    (h : DataW.Trod enc Tryd.prog W 0 (fun _ => true) true 45 (.slice a len cap) d p) : ∃ l : List UInt8, Rd W (.slice a len cap) (bytesV l) ∧ l.length = len := by
  obtain ⟨fuel, hf⟩ := h
  rcases open_ints Tryd.underlying45 Tryd.underlying5 (by kernel_rfl) hf with ⟨hcs, _⟩ | ⟨x, l, c, zs, hcs, _, hl, hm, hz, _, hcell, hwz⟩
  · simp [Value.cells] at hcs
    obtain ⟨rfl, rfl, rfl⟩ := hcs
    exact ⟨[], Rd.nil W, rfl⟩
  · simp [Value.cells] at hcs
    obtain ⟨rfl, rfl, rfl⟩ := hcs
    have hlen : ((zs.take len).map fun z => UInt8.ofNat z.toNat).length = len := by
      have : zs.length = cap := by simpa using hz
      simp
      omega
    refine ⟨(zs.take len).map fun z => UInt8.ofNat z.toNat, ⟨_, cap, by rw [bytesV_len, hlen], by rw [bytesV_len, hlen]; exact hl, hm, fun _ => ⟨_, rfl, fun j u hu => ?_⟩⟩, hlen⟩
    simp only [bytesV, List.getElem?_map, Option.map_eq_some_iff] at hu
    obtain ⟨y, ⟨z, hz1, rfl⟩, rfl⟩ := hu
    rw [List.getElem?_take] at hz1
    split at hz1
    · obtain ⟨hj, rfl⟩ := List.getElem?_eq_some_iff.1 hz1
      have hw := hwz _ (List.getElem_mem hj)
      have hb : 0 ≤ zs[j] ∧ zs[j] ≤ 255 := by simpa [Lit.wf, IntKind.min, IntKind.max, IntKind.bits, IntKind.signed] using hw
      rw [hcell j hj]
      simp only [byteV, List.getD_eq_getElem?_getD, List.getElem?_eq_getElem hj, Option.getD_some]
      rw [UInt8.toNat_ofNat']
      congr 2
      omega
    · cases hz1

theorem wf_u64 {n : Int} (h : (Lit.int .u64 n).wf = true) : 0 ≤ n ∧ n < 18446744073709551616 := by
  have := bounds_u64 h
  omega
end Go.Proofs.YtiakkfcjdmecdaaDoor
