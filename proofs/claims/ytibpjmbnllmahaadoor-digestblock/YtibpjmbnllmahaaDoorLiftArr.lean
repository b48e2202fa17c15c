/-
  Arguments that are arrays by value: words and bytes.
-/
import Derived.Test.YtibpjmbnllmahaaDoorLift
import Derived.Test.YtibpjmbnllmahaaDoorDigWords
namespace Go.Proofs.YtibpjmbnllmahaaDoor
open Go.ChangeShapes Go.WideShapes Go.ChangeAt Go.RowKit

theorem cells_int {W : World} {base : Nat} {t e : TypeId} {n : Nat} {k : IntKind} {v : Value} (hu : Tryd.prog.underlying t = some (.array n e)) (he : Tryd.prog.underlying e = some (.int k)) (ht : Tryd.prog.cellTypes Tryd.prog.depth t = some (List.replicate n e)) (hc : Tryd.prog.cellsOf t = n)
    (h : Value.okWide Tryd.prog W .any base t v) : ∃ cs : Array Value, v = .agg cs ∧ cs.size = n ∧ ∀ x ∈ cs.toList, ∃ z : Int, x = .int k z ∧ k.has z := by
  unfold Value.okWide at h
  rw [hu] at h
  obtain ⟨cs, rfl, hsz, ts, hts, _, hall⟩ := h
  rw [ht] at hts
  injection hts with hts
  subst hts
  refine ⟨cs, rfl, by rw [hsz, hc], fun x hx => ?_⟩
  obtain ⟨i, hi⟩ := List.getElem?_of_mem hx
  obtain ⟨u, hu', hok⟩ := hall i x (by simpa using hi)
  have hue : u = e := by
    have := List.mem_of_getElem? hu'
    exact List.eq_of_mem_replicate this
  subst hue
  unfold Cell.okWide at hok
  rw [he] at hok
  unfold Cell.ok at hok
  cases x <;> simp [he] at hok
  rename_i k' z
  exact ⟨z, by rw [hok.1], hok.2⟩
theorem open_words {W : World} {base : Nat} {v : Value} (h : Value.okWide Tryd.prog W .any base 30 v) : ∃ s : List W32, s.length = 8 ∧ v = .agg (wordsV s).toArray := by
  obtain ⟨cs, rfl, hsz, hall⟩ := cells_int Tryd.underlying30 Tryd.underlying29 (by kernel_rfl) (by kernel_rfl) h
  let f : Value → W32 := fun v => match v with | .int _ z => BitVec.ofNat 32 z.toNat | _ => 0
  have e : wordsV (cs.toList.map f) = cs.toList := by
    unfold wordsV
    rw [List.map_map]
    refine (List.map_congr_left (fun x hx => ?_)).trans (List.map_id _)
    obtain ⟨z, rfl, hz⟩ := hall x hx
    have hz' : 0 ≤ z ∧ z ≤ 4294967295 := hz
    show Value.int .u32 ((BitVec.ofNat 32 z.toNat).toNat : Int) = .int .u32 z
    rw [BitVec.toNat_ofNat]
    congr 1
    omega
  exact ⟨cs.toList.map f, by simpa using hsz, by rw [e]⟩
theorem open_block {W : World} {base : Nat} {v : Value} (h : Value.okWide Tryd.prog W .any base 31 v) : ∃ b : List UInt8, b.length = 64 ∧ v = .agg (bytesV b).toArray := by
  obtain ⟨cs, rfl, hsz, hall⟩ := cells_int Tryd.underlying31 Tryd.underlying5 (by kernel_rfl) (by kernel_rfl) h
  let f : Value → UInt8 := fun v => match v with | .int _ z => UInt8.ofNat z.toNat | _ => 0
  have e : bytesV (cs.toList.map f) = cs.toList := by
    unfold bytesV
    rw [List.map_map]
    refine (List.map_congr_left (fun x hx => ?_)).trans (List.map_id _)
    obtain ⟨z, rfl, hz⟩ := hall x hx
    have hz' : 0 ≤ z ∧ z ≤ 255 := hz
    show Value.int .u8 ((UInt8.ofNat z.toNat).toNat : Int) = .int .u8 z
    rw [UInt8.toNat_ofNat']
    congr 1
    omega
  exact ⟨cs.toList.map f, by simpa using hsz, by rw [e]⟩
end Go.Proofs.YtibpjmbnllmahaaDoor
