/-
  Layer 11's words: token by token (of no program).
-/
import Derived.Test.YtibofgokdjbomaaPkN
namespace Go.Proofs.Ytibofgokdjbomaa
set_option maxRecDepth 1000000

/-- What holds of the k-th token. -/
structure At (l : List Tok) (k : Nat) (hk : k < l.length) : Prop where
  ok : Okp (putsP pst0 (l.take k))
  r : right l[k] = true
  b : l[k].back ≤ (putsP pst0 (l.take k)).x.h.length
  n : (putsP pst0 (l.take k)).x.h.length ≤ 65536
  o : (putsP pst0 (l.take k)).s.out.length ≤ 28 * k
theorem expand_take {l : List Tok} (he : (expand l).2 = 0) (k : Nat) : (expand (l.take k)).2 = 0 := by
  have h : expand (l.take k ++ l.drop k) = expand l := by rw [List.take_append_drop]
  unfold expand at h he ⊢
  rw [expandFrom_app] at h
  split at h
  · assumption
  · rw [h]; exact he
theorem putsP_out {l : List Tok} (he : (expand l).2 = 0) : ∀ k, k ≤ l.length → (putsP pst0 (l.take k)).s.out.length ≤ 28 * k
  | 0, _ => by rw [List.take_zero]; exact Nat.le_refl _
  | k + 1, hk => by
    have ih := putsP_out he k (by omega)
    have hlt : k < l.length := by omega
    have h1 := expand_take he (k + 1)
    rw [putsP_take l pst0 k hlt]
    have hb : l[k].back ≤ 32768 := by
      unfold expand at h1
      rw [List.take_succ_eq_append_getElem hlt, expandFrom_app, if_pos (show (expandFrom [] (l.take k)).2 = 0 from expand_take he k)] at h1
      exact (right_len (expandFrom_one h1).1).2.2.2.1
    have := putT_len (putsP pst0 (l.take k)).s (putsP pst0 (l.take k)).x l[k] hb
    show (putT _ _ _).1.out.length ≤ _
    omega
theorem at_k {l : List Tok} (he : (expand l).2 = 0) (k : Nat) (hk : k < l.length) : At l k hk := by
  have h0 := expand_take he k
  have h1 := expand_take he (k + 1)
  have hh := putsP_h (l.take k) pst0 h0
  unfold expand at h1
  rw [List.take_succ_eq_append_getElem hk, expandFrom_app, if_pos (show (expandFrom [] (l.take k)).2 = 0 from h0)] at h1
  obtain ⟨a1, a2, a3, _⟩ := expandFrom_one h1
  have hs := expandFrom_small (l.take k) [] h0 (by simp)
  have e : (putsP pst0 (l.take k)).x.h = (expandFrom [] (l.take k)).1 := hh
  refine ⟨putsP_ok _ pst0_ok, a1, ?_, ?_, putsP_out he k (by omega)⟩
  · rw [e]; exact a2
  · rw [e]; exact hs
theorem expand_few {l : List Tok} (he : (expand l).2 = 0) : l.length ≤ 65536 := by
  have h1 := sizes_pos l [] he
  have h2 := expandFrom_ok l [] he
  have h3 := expandFrom_small l [] he (by simp)
  simp at h2
  omega
end Go.Proofs.Ytibofgokdjbomaa
