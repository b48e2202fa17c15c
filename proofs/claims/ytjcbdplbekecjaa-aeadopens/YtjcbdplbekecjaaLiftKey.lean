/-
  Arguments that are arrays of bytes by value, and words.
-/
import Derived.Test.YtjcbdplbekecjaaLift
import Derived.Test.YtjcbdplbekecjaaCha
import Derived.Test.YtjcbdplbekecjaaChecked
namespace Go.Proofs.Ytjcbdplbekecjaa
open Go.ChangeShapes Go.WideShapes Go.ChangeAt Go.RowKit

theorem cells_int {W : World} {base : Nat} {t e : TypeId} {n : Nat} {k : IntKind} {v : Value} (hu : Try.prog.underlying t = some (.array n e)) (he : Try.prog.underlying e = some (.int k)) (ht : Try.prog.cellTypes Try.prog.depth t = some (List.replicate n e)) (hc : Try.prog.cellsOf t = n)
    (h : Value.okWide Try.prog W .any base t v) : ∃ cs : Array Value, v = .agg cs ∧ cs.size = n ∧ ∀ x ∈ cs.toList, ∃ z : Int, x = .int k z ∧ k.has z := by
  unfold Value.okWide at h
  rw [hu] at h
  obtain ⟨cs, rfl, hsz, ts, hts, _, hall⟩ := h
  rw [ht] at hts
  injection hts with hts
  subst hts
  refine ⟨cs, rfl, by rw [hsz, hc], fun x hx => ?_⟩
  obtain ⟨i, hi⟩ := List.getElem?_of_mem hx
  obtain ⟨u, hu', hok⟩ := hall i x (by simpa using hi)
  have hue : u = e := by
    have := List.mem_of_getElem? hu'
    exact List.eq_of_mem_replicate this
  subst hue
  unfold Cell.okWide at hok
  rw [he] at hok
  unfold Cell.ok at hok
  cases x <;> simp [he] at hok
  rename_i k' z
  exact ⟨z, by rw [hok.1], hok.2⟩
theorem open_arr {W : World} {base : Nat} {v : Value} {t : TypeId} {n : Nat} (hu : Try.prog.underlying t = some (.array n 5)) (ht : Try.prog.cellTypes Try.prog.depth t = some (List.replicate n 5)) (hc : Try.prog.cellsOf t = n) (h : Value.okWide Try.prog W .any base t v) : ∃ b : List UInt8, b.length = n ∧ v = .agg (bytesV b).toArray := by
  obtain ⟨cs, rfl, hsz, hall⟩ := cells_int hu Try.underlying5 ht hc h
  let f : Value → UInt8 := fun v => match v with | .int _ z => UInt8.ofNat z.toNat | _ => 0
  have e : bytesV (cs.toList.map f) = cs.toList := by
    unfold bytesV
    rw [List.map_map]
    refine (List.map_congr_left (fun x hx => ?_)).trans (List.map_id _)
    obtain ⟨z, rfl, hz⟩ := hall x hx
    have hz' : 0 ≤ z ∧ z ≤ 255 := hz
    show Value.int .u8 ((UInt8.ofNat z.toNat).toNat : Int) = .int .u8 z
    rw [UInt8.toNat_ofNat']
    congr 1
    omega
  exact ⟨cs.toList.map f, by simpa using hsz, by rw [e]⟩
theorem open_key {W : World} {base : Nat} {v : Value} (h : Value.okWide Try.prog W .any base 22 v) : ∃ b : List UInt8, b.length = 32 ∧ v = .agg (bytesV b).toArray := open_arr Try.underlying22 (by kernel_rfl) (by kernel_rfl) h
theorem open_nonce {W : World} {base : Nat} {v : Value} (h : Value.okWide Try.prog W .any base 23 v) : ∃ b : List UInt8, b.length = 12 ∧ v = .agg (bytesV b).toArray := open_arr Try.underlying23 (by kernel_rfl) (by kernel_rfl) h
/-- A word is a number of 32 bits. -/
theorem of_u32 {a : Int} (h : (Lit.int .u32 a).wf = true) : ∃ n : W32, a = (n.toNat : Int) := by
  have hb : 0 ≤ a ∧ a ≤ 4294967295 := by simpa [Lit.wf, IntKind.min, IntKind.max, IntKind.bits, IntKind.signed] using h
  refine ⟨BitVec.ofNat 32 a.toNat, ?_⟩
  rw [BitVec.toNat_ofNat]
  omega
theorem of_u8 {a : Int} (h : (Lit.int .u8 a).wf = true) : ∃ n : Nat, a = (n : Int) ∧ n < 256 := by
  have hb : 0 ≤ a ∧ a ≤ 255 := by simpa [Lit.wf, IntKind.min, IntKind.max, IntKind.bits, IntKind.signed] using h
  exact ⟨a.toNat, by omega, by omega⟩
theorem of_u16 {a : Int} (h : (Lit.int .u16 a).wf = true) : ∃ n : Nat, a = (n : Int) ∧ n < 65536 := by
  have hb : 0 ≤ a ∧ a ≤ 65535 := by simpa [Lit.wf, IntKind.min, IntKind.max, IntKind.bits, IntKind.signed] using h
  exact ⟨a.toNat, by omega, by omega⟩
end Go.Proofs.Ytjcbdplbekecjaa
