/-
  Layer 10's words: what is told, as one number (of no program).
-/
import Derived.Test.YtohndlfekecfoaaCodR
namespace Go.Proofs.Ytohndlfekecfoaa
set_option maxRecDepth 1000000

/-- Bytes as a number, the highest first. -/
def valB (l : List UInt8) : Nat := l.foldl (fun a x => a * 256 + x.toNat) 0
theorem valB_one (l : List UInt8) (x : UInt8) : valB (l ++ [x]) = valB l * 256 + x.toNat := by simp [valB, List.foldl_append]
theorem valB_take (l : List UInt8) (k : Nat) (x : UInt8) (h : l[k]? = some x) : valB (l.take (k + 1)) = valB (l.take k) * 256 + x.toNat := by
  rw [List.take_add_one, h]
  exact valB_one _ x
theorem valB_lt (l : List UInt8) : valB l < 256 ^ l.length := by
  have h : ∀ n (l : List UInt8), l.length = n → valB l < 256 ^ n := by
    intro n
    induction n with
    | zero => intro l h; rw [List.eq_nil_of_length_eq_zero h]; decide
    | succ n ih =>
      intro l h
      have hne : l ≠ [] := by rintro rfl; simp at h
      have h1 := ih l.dropLast (by rw [List.length_dropLast, h]; rfl)
      have h2 := UInt8.toNat_lt (l.getLast hne)
      rw [← List.dropLast_concat_getLast hne, valB_one, Nat.pow_succ]
      omega
  exact h _ l rfl
theorem incrAt_app : ∀ (k : Nat) (l b : List UInt8), k ≤ l.length → incrAt k (l ++ b) = incrAt k l ++ b
  | 0, _, _, _ => rfl
  | k + 1, l, b, h => by
    have hk : k < l.length := by omega
    have e1 : (l ++ b).getD k 0 = l.getD k 0 := by
      simp only [List.getD_eq_getElem?_getD, List.getElem?_append_left hk]
    have e2 : ∀ x, (l ++ b).set k x = l.set k x ++ b := fun x => List.set_append_left k x hk
    simp only [incrAt, e1, e2]
    split
    · exact incrAt_app k _ b (by simp; omega)
    · rfl
theorem incr_one (l : List UInt8) (x : UInt8) : incr (l ++ [x]) = if x + 1 = 0 then incr l ++ [0] else l ++ [x + 1] := by
  have hl : (l ++ [x]).length = l.length + 1 := by simp
  have e1 : (l ++ [x]).getD l.length 0 = x := by simp [List.getD_eq_getElem?_getD]
  have e2 : ∀ y, (l ++ [x]).set l.length y = l ++ [y] := fun y => by simp
  unfold incr
  rw [hl]
  simp only [incrAt, e1, e2]
  split
  · exact incrAt_app _ l [0] (Nat.le_refl _)
  · rfl
theorem incr_val (l : List UInt8) (h : valB l + 1 < 256 ^ l.length) : valB (incr l) = valB l + 1 := by
  have key : ∀ n (l : List UInt8), l.length = n → valB l + 1 < 256 ^ n → valB (incr l) = valB l + 1 := by
    intro n
    induction n with
    | zero => intro l h1 h2; simp at h2
    | succ n ih =>
      intro l h1 h2
      have hne : l ≠ [] := by rintro rfl; simp at h1
      obtain ⟨m, x, rfl⟩ : ∃ m x, l = m ++ [x] := ⟨l.dropLast, l.getLast hne, (List.dropLast_concat_getLast hne).symm⟩
      have hm : m.length = n := by simpa using h1
      have hx := UInt8.toNat_lt x
      rw [valB_one, Nat.pow_succ] at h2
      rw [incr_one]
      split
      · rename_i hz
        have hz2 : x.toNat = 255 := by
          have h3 := congrArg UInt8.toNat hz
          rw [UInt8.toNat_add] at h3
          simp at h3
          omega
        have := ih m hm (by omega)
        rw [valB_one, valB_one, this, hz2]
        show (valB m + 1) * 256 + 0 = _
        omega
      · rename_i hz
        have hz2 : (x + 1).toNat = x.toNat + 1 := by
          have h3 : x.toNat ≠ 255 := by
            intro e
            apply hz
            apply UInt8.toNat_inj.1
            rw [UInt8.toNat_add, e]
            rfl
          rw [UInt8.toNat_add]
          simp
          omega
        rw [valB_one, valB_one, hz2]
        omega
  exact key _ l rfl h

/-- All that was told, and low, as one number. -/
def tot (s : Cst) : Nat := valB s.out * 4294967296 + s.low
/-- Nothing is carried out of the first byte. -/
def Nov (s : Cst) : Prop := tot s + s.width ≤ 256 ^ (s.out.length + 4)
theorem nov_begin : Nov beginS := by
  show 0 * 4294967296 + 0 + 4294967295 ≤ 256 ^ 4
  decide
theorem tell_tot {s : Cst} (h : s.low < 4294967296) : tot { tellS s with width := s.width * 256 } = tot s * 256 := by
  show valB (s.out ++ [UInt8.ofNat (s.low / 16777216)]) * 4294967296 + s.low % 16777216 * 256 = (valB s.out * 4294967296 + s.low) * 256
  rw [valB_one, show (UInt8.ofNat (s.low / 16777216)).toNat = s.low / 16777216 by rw [UInt8.toNat_ofNat']; omega]
  omega
/-- How many bytes more wid tells: none, or one. -/
theorem wid_val {s : Cst} (h : s.low < 4294967296) : ∃ k, k ≤ 1 ∧ (wid s).out.length = s.out.length + k ∧ tot (wid s) = tot s * 256 ^ k ∧ (wid s).width = s.width * 256 ^ k ∧ (k = 1 ↔ s.width < 16777216) := by
  unfold wid
  split
  · rename_i hlt
    exact ⟨1, Nat.le_refl _, by simp [tellS], by rw [tell_tot h, Nat.pow_one], by rw [Nat.pow_one], by simp [hlt]⟩
  · rename_i hge
    exact ⟨0, by decide, rfl, by simp, by simp, ⟨fun h => by omega, fun h => by omega⟩⟩
theorem carry_tot {s : Cst} {bound : Nat} (h : s.low < 4294967296) (hb : bound < s.width) (hn : Nov s) (width : Nat) (hbb : bound < 4294967296) :
    tot ⟨if 4294967296 ≤ s.low + bound then incr s.out else s.out, (s.low + bound) % 4294967296, width⟩ = tot s + bound := by
  unfold tot
  unfold Nov tot at hn
  simp only
  split
  · rename_i hc
    have hp : 256 ^ (s.out.length + 4) = 256 ^ s.out.length * 4294967296 := by rw [Nat.pow_add]
    rw [hp] at hn
    have hlt : valB s.out + 1 < 256 ^ s.out.length := by
      rcases Nat.lt_or_ge (valB s.out + 1) (256 ^ s.out.length) with h1 | h1
      · exact h1
      · have := Nat.mul_le_mul_right 4294967296 h1
        omega
    rw [incr_val _ hlt]
    omega
  · omega
/-- A bit's place: from where on, and how wide. -/
def from_ (s : Cst) (bound : Nat) (b : Bool) : Nat := if b then tot s + bound else tot s
def wide_ (s : Cst) (bound : Nat) (b : Bool) : Nat := if b then s.width - bound else bound
theorem putS_val {s : Cst} {bound : Nat} (b : Bool) (h : Okc s) (hb : Okb s bound) (hn : Nov s) :
    ∃ k, k ≤ 1 ∧ (putS s bound b).out.length = s.out.length + k ∧ tot (putS s bound b) = from_ s bound b * 256 ^ k ∧ (putS s bound b).width = wide_ s bound b * 256 ^ k ∧ (k = 1 ↔ wide_ s bound b < 16777216) := by
  have h1 := h.low
  have h3 := h.most
  have b1 := hb.least
  have b2 := hb.most
  unfold putS from_ wide_
  cases b with
  | true =>
    simp only [if_true]
    obtain ⟨k, k1, k2, k3, k4, k5⟩ := wid_val (s := ⟨if 4294967296 ≤ s.low + bound then incr s.out else s.out, (s.low + bound) % 4294967296, s.width - bound⟩) (Nat.mod_lt _ (by decide))
    refine ⟨k, k1, ?_, ?_, k4, k5⟩
    · rw [k2]
      congr 1
      show List.length (if _ then incr s.out else s.out) = _
      split
      · exact incr_len _
      · rfl
    · rw [k3, carry_tot h1 (by omega) hn _ (by omega)]
  | false =>
    simp only [Bool.false_eq_true, if_false]
    exact wid_val (s := ⟨s.out, s.low, bound⟩) h1
theorem putS_nov {s : Cst} {bound : Nat} (b : Bool) (h : Okc s) (hb : Okb s bound) (hn : Nov s) : Nov (putS s bound b) := by
  obtain ⟨k, k1, k2, k3, k4, _⟩ := putS_val b h hb hn
  have b2 := hb.most
  unfold Nov at *
  rw [k2, k3, k4, show s.out.length + k + 4 = s.out.length + 4 + k by omega, Nat.pow_add, ← Nat.add_mul]
  refine Nat.mul_le_mul_right _ (Nat.le_trans ?_ hn)
  unfold from_ wide_
  cases b
  · simp; omega
  · simp; omega
end Go.Proofs.Ytohndlfekecfoaa
