/-
  Layer 11's words: bytes, packed and unpacked (of no program).
-/
import Derived.Test.YtibofgokdjbomaaPkV
import Derived.Test.YtibofgokdjbomaaMOct
namespace Go.Proofs.Ytibofgokdjbomaa
set_option maxRecDepth 1000000

def packM (b : List UInt8) (win : Int) : List UInt8 := enc b.length ++ writeS (parse b win)
def unpackM (x : List UInt8) : List UInt8 × Int :=
  if (O.first x).2.2 = 0 then
    (if 65536 < (O.first x).1 then ([], 3)
     else if (readM (x.drop (O.first x).2.1) (O.first x).1).2 = 0 then ((expand (readM (x.drop (O.first x).2.1) (O.first x).1).1).1, ((expand (readM (x.drop (O.first x).2.1) (O.first x).1).1).2 : Int))
     else ([], ((readM (x.drop (O.first x).2.1) (O.first x).1).2 : Int)))
  else ([], (O.first x).2.2)
/-- Behind a number. -/
theorem unpack_enc {m : Nat} (hm : m ≤ 65536) (r : List UInt8) : unpackM (enc m ++ r) = if (readM r m).2 = 0 then ((expand (readM r m).1).1, ((expand (readM r m).1).2 : Int)) else ([], ((readM r m).2 : Int)) := by
  unfold unpackM
  rw [O.first_enc m r (by omega)]
  simp only [↓reduceIte]
  rw [if_neg (by omega), List.drop_left]
theorem unpack_pack (b : List UInt8) (win : Int) (hb : b.length ≤ 65536) (hw : 1 ≤ win ∧ win ≤ 32768) : unpackM (packM b win) = (b, 0) := by
  obtain ⟨h1, _⟩ := parse_back b win hw hb
  have h2 := read_write (l := parse b win) (by rw [h1])
  rw [h1] at h2
  unfold packM
  rw [unpack_enc hb, h2]
  simp only [↓reduceIte]
  rw [h1]
  rfl
theorem unpack_more (b : List UInt8) (win : Int) (hb : b.length ≤ 65536) (hw : 1 ≤ win ∧ win ≤ 32768) (e : List UInt8) (he : e ≠ []) : unpackM (packM b win ++ e) = ([], 5) := by
  obtain ⟨h1, _⟩ := parse_back b win hw hb
  have h2 := read_write (l := parse b win) (by rw [h1])
  rw [h1] at h2
  unfold packM
  rw [List.append_assoc, unpack_enc hb, read_more h2 he]
  rfl
theorem enc_len3 {m : Nat} (h : m ≤ 65536) : (enc m).length ≤ 3 := by
  by_cases h1 : m < 128
  · rw [enc_small h1]; simp
  · rw [enc_big (by omega), List.length_cons]
    by_cases h2 : m / 128 < 128
    · rw [enc_small h2]; simp
    · rw [enc_big (by omega), List.length_cons, enc_small (by omega)]; simp
theorem first_cut {m : Nat} (h : m ≤ 65536) (c : Nat) (hc : c < (enc m).length) : (O.first ((enc m).take c)).2.2 ≠ 0 := by
  intro h0
  obtain ⟨h1, h2⟩ := O.first_back _ h0
  generalize (O.first ((enc m).take c)).1 = k at *
  generalize (O.first ((enc m).take c)).2.1 = t at *
  have h3 := enc_len3 h
  have hlen : (enc k).length ≤ c := by rw [← h1, List.length_take]; rw [List.length_take] at h2 ⊢; omega
  have hsplit : enc m = enc k ++ (((enc m).take c).drop t ++ (enc m).drop c) := by
    rw [← h1, ← List.append_assoc, List.take_append_drop, List.take_append_drop]
  have e1 := O.fnum_enc 6 0 0 m [] (by omega) (by omega)
  have e2 := O.fnum_enc 6 0 0 k (((enc m).take c).drop t ++ (enc m).drop c) (by omega) (by omega)
  rw [List.append_nil] at e1
  rw [← hsplit, e1] at e2
  have e3 : (enc m).length = (enc k).length := by
    have := congrArg (fun p => p.2.1) e2
    simp at this
    exact this
  omega
theorem unpack_cut (b : List UInt8) (win : Int) (hb : b.length ≤ 65536) (hw : 1 ≤ win ∧ win ≤ 32768) (c : Nat) (hc : c < (packM b win).length) : (unpackM ((packM b win).take c)).2 ≠ 0 ∧ (unpackM ((packM b win).take c)).1 = [] := by
  obtain ⟨h1, _⟩ := parse_back b win hw hb
  have h2 := read_write (l := parse b win) (by rw [h1])
  rw [h1] at h2
  unfold packM at hc ⊢
  by_cases hn : c < (enc b.length).length
  · rw [List.take_append_of_le_length (by omega)]
    have := first_cut hb c hn
    unfold unpackM
    rw [if_neg this]
    exact ⟨this, rfl⟩
  · obtain ⟨j, rfl⟩ : ∃ j, c = (enc b.length).length + j := ⟨c - (enc b.length).length, by omega⟩
    rw [List.take_length_add_append, unpack_enc hb]
    rw [List.length_append] at hc
    have h3 : (readM ((writeS (parse b win)).take j) b.length).2 ≠ 0 := by
      refine read_cut (e := (writeS (parse b win)).drop j) (l := parse b win) ?_ ?_
      · rw [List.take_append_drop]; exact h2
      · intro e
        have := congrArg List.length e
        rw [List.length_drop] at this
        simp at this
        omega
    rw [if_neg h3]
    exact ⟨by simpa using h3, rfl⟩
/-- What is unpacked. -/
theorem unpack_is {x : List UInt8} (h : (unpackM x).2 = 0) : ∃ l, (unpackM x).1.length ≤ 65536 ∧ x.take (enc (unpackM x).1.length).length = enc (unpackM x).1.length ∧ (enc (unpackM x).1.length).length ≤ x.length ∧ readM (x.drop (enc (unpackM x).1.length).length) (unpackM x).1.length = (l, 0) ∧ expand l = ((unpackM x).1, 0) := by
  unfold unpackM at h ⊢
  by_cases h0 : (O.first x).2.2 = 0
  · rw [if_pos h0] at h ⊢
    by_cases h3 : 65536 < (O.first x).1
    · rw [if_pos h3] at h; cases h
    · rw [if_neg h3] at h ⊢
      by_cases h4 : (readM (x.drop (O.first x).2.1) (O.first x).1).2 = 0
      · rw [if_pos h4] at h ⊢
        obtain ⟨f1, f2⟩ := O.first_back x h0
        have h5 : readM (x.drop (O.first x).2.1) (O.first x).1 = ((readM (x.drop (O.first x).2.1) (O.first x).1).1, 0) := by rw [← h4]
        obtain ⟨g1, g2⟩ := read_fit (by omega) h5
        have hl : (enc (O.first x).1).length = (O.first x).2.1 := by rw [← f1, List.length_take]; omega
        refine ⟨(readM (x.drop (O.first x).2.1) (O.first x).1).1, ?_⟩
        simp only
        rw [g2, hl]
        refine ⟨by omega, f1, f2, h5, ?_⟩
        rw [← g1]
      · rw [if_neg h4] at h
        exact absurd (Int.ofNat_eq_zero.1 h) h4
  · rw [if_neg h0] at h
    exact absurd h h0
theorem unpack_bad {x : List UInt8} (h : (unpackM x).2 ≠ 0) : (unpackM x).1 = [] := by
  unfold unpackM at h ⊢
  by_cases h0 : (O.first x).2.2 = 0
  · rw [if_pos h0] at h ⊢
    by_cases h3 : 65536 < (O.first x).1
    · rw [if_pos h3]
    · rw [if_neg h3] at h ⊢
      by_cases h4 : (readM (x.drop (O.first x).2.1) (O.first x).1).2 = 0
      · rw [if_pos h4] at h ⊢
        have h5 : readM (x.drop (O.first x).2.1) (O.first x).1 = ((readM (x.drop (O.first x).2.1) (O.first x).1).1, 0) := by rw [← h4]
        obtain ⟨g1, g2⟩ := read_fit (by omega) h5
        rw [g1] at h
        exact absurd rfl h
      · rw [if_neg h4]
  · rw [if_neg h0]
theorem pack_len (b : List UInt8) (win : Int) (hb : b.length ≤ 65536) (hw : 1 ≤ win ∧ win ≤ 32768) : (packM b win).length ≤ 7 * b.length + 7 ∧ 5 ≤ (packM b win).length := by
  obtain ⟨h1, _⟩ := parse_back b win hw hb
  have h2 := write_len (l := parse b win) (by rw [h1])
  rw [h1] at h2
  have h3 := enc_len3 hb
  have h4 := enc_pos b.length
  unfold packM
  rw [List.length_append]
  simp only at h2
  omega
end Go.Proofs.Ytibofgokdjbomaa
