/-
  Layer 13: what was encoded is decoded, nothing else is decoded as it.
-/
import Derived.Test.YtiakkfcjdmecdaaDoorEnDec
import Derived.Test.YtiakkfcjdmecdaaDoorEnWithin
namespace Go.Proofs.YtiakkfcjdmecdaaDoor
set_option maxRecDepth 1000000
open Go.RowKit

theorem fine_wide {l : List En} (h : fineE l = true) : l.length ≤ 1024 ∧ ∀ e ∈ l, Wide e := by
  have hg := (fine_good h).1
  refine ⟨hg.few, fun e he => ?_⟩
  obtain ⟨k, hk, rfl⟩ := List.getElem_of_mem he
  have hd : l.getD k default = l[k] := by simp [List.getElem?_eq_getElem hk]
  have hb := fine_ends h hk
  rw [hd] at hb
  have hr := hg.right _ he
  have ho := hg.ok _ he
  have hs := hg.size _ he
  generalize l[k] = e at *
  simp only [rightB, Bool.and_eq_true, decide_eq_true_eq] at hr
  simp only [okE, Bool.and_eq_true, Bool.not_eq_true', Bool.or_eq_false_iff, Bool.and_eq_false_iff, decide_eq_false_iff_not, bne_eq_false_iff_eq, beq_eq_false_iff_ne] at ho
  obtain ⟨⟨⟨⟨⟨⟨⟨h1, h2⟩, h3⟩, h4⟩, h5⟩, h6⟩, h7⟩, ⟨h8, h9⟩, h10⟩ := ho
  refine ⟨by omega, by omega, by omega, by omega, by omega, hr.1, ?_⟩
  rcases h10 with h10 | h10
  · rcases h9 with h9 | h9
    · exact absurd h9 h10
    · omega
  · omega
/-- The entries of which b is the bytes, if it is any's. -/
def decM (b : List UInt8) : Option (List En) := if (listOf b).2 = ([], 0) ∧ fineE (listOf b).1 = true then some (listOf b).1 else none
theorem dec_enc {l : List En} (h : fineE l = true) : decM (encE l) = some l := by
  obtain ⟨h1, h2⟩ := fine_wide h
  have := listOf_enc l h1 h2
  unfold decM
  rw [this]
  simp [h]
theorem dec_back {b : List UInt8} {l : List En} (h : decM b = some l) : fineE l = true ∧ encE l = b := by
  unfold decM at h
  split at h
  · rename_i hc
    injection h with h
    subst h
    exact ⟨hc.2, listOf_back hc.1⟩
  · cases h
end Go.Proofs.YtiakkfcjdmecdaaDoor
