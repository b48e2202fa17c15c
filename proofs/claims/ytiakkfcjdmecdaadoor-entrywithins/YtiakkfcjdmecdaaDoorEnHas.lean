/-
  What the laws of layer 13 ask of the program's functions (as hypotheses); what they know of the document's, in any value.
-/
import Derived.Test.YtiakkfcjdmecdaaDoorEnDecF
import Derived.Test.YtiakkfcjdmecdaaDoorEnLaws
import Derived.Test.YtiakkfcjdmecdaaDoorEnShort
import Derived.Test.YtiakkfcjdmecdaaDoorBytOps
import Derived.Test.YtiakkfcjdmecdaaDoorStepOps
import Derived.Test.YtiakkfcjdmecdaaDoorEnTold
import Derived.Test.YtiakkfcjdmecdaaDoorEnFew
namespace Go.Proofs.YtiakkfcjdmecdaaDoor
set_option maxRecDepth 1000000
open Go.RowKit

def IsE (l : List En) (v : Value) (w : World) : Prop := RdE w v l
theorem stays_E (l : List En) (j : Nat) : StaysBut [] j (IsE l) := fun _ _ _ _ _ h hg => RdE.grown0 h hg
theorem stays_B13 (l : List UInt8) (j : Nat) : StaysBut [] j (IsB l) := fun _ _ _ _ _ h hg => Rd.grown0 h hg
theorem given_made (l : List En) (v : Value) (w : World) (hv : RdE w v l) (hl : l.length ≤ 100000) :
    Calls Tryd.prog 19 #[v] w (fun e w' => ∃ u, e = .returned u ∧ w.grownBy w' none ∧ IsE l u w') :=
  (given_any l v w hv hl).mono fun _ _ ⟨u, he, hr, hg⟩ => ⟨u, he, hg, hr⟩
theorem fine_made (v : Value) (m : Nat) (l : List En) (w : World) (hr : RdE w v l) (hm : Lens l m) (hmb : m < 1000000) (hnb : l.length ≤ 1000000) :
    Calls Tryd.prog 24 #[v] w (fun e w' => ∃ u, e = .returned u ∧ w.grownBy w' none ∧ Is (.bool (fineE l)) u w') := by
  obtain ⟨A, c, rfl⟩ := hr.form
  exact Val.made7 (refFine_any A l.length c m l w hr hm hmb hnb)
theorem encode_made (v : Value) (m : Nat) (l : List En) (w : World) (hr : RdE w v l) (hm : Lens l m) (hmb : m ≤ 1000000) (hnb : l.length ≤ 100000) :
    Calls Tryd.prog 29 #[v] w (fun e w' => ∃ u, e = .returned u ∧ w.grownBy w' none ∧ IsB (encE l) u w') := by
  obtain ⟨A, c, rfl⟩ := hr.form
  exact (refEncode_any A l.length c m l w hr hm hmb hnb).mono fun _ _ ⟨u, he, ho, hg⟩ => ⟨u, he, hg, Rd.of_own ho⟩
/-- The laws' awake answers true. -/
def HasAwake : Prop := ∀ w, Calls Tryd.prog 12 #[] w (Val (.bool true) w)
/-- What Decode answers. -/
def DecOut (b : List UInt8) (w : World) (e : Ending) (w' : World) : Prop :=
  ∃ u z, e = .returned (.tuple #[u, .int .i64 z]) ∧ w.grownBy w' none ∧ ((z = 0 ∧ ∃ l, decM b = some l ∧ RdE w' u l) ∨ (z ≠ 0 ∧ decM b = none ∧ RdE w' u []))
def HasDecode (n : Nat) : Prop := ∀ v b w, Rd w v (bytesV b) → b.length ≤ n → Calls Tryd.prog 28 #[v] w (DecOut b w)
/-- What Encode answers. -/
def EncOut (l : List En) (w : World) (e : Ending) (w' : World) : Prop :=
  ∃ u z, e = .returned (.tuple #[u, .int .i64 z]) ∧ w.grownBy w' none ∧ ((fineE l = true ∧ z = 0 ∧ Rd w' u (bytesV (encE l))) ∨ (fineE l = false ∧ z = 1 ∧ Rd w' u []))
def Sizes (l : List En) : Prop := ∀ e ∈ l, -1099511627776 ≤ e.size ∧ e.size ≤ 1099511627776
def HasEncode : Prop := ∀ v l w, RdE w v l → Lens l 300 → Sizes l → l.length ≤ 20 → Calls Tryd.prog 27 #[v] w (EncOut l w)
theorem short_is {l : List En} (h : shortB l = true) : l.length ≤ 20 ∧ Lens l 300 ∧ Sizes l := by
  simp only [shortB, Bool.and_eq_true, decide_eq_true_eq, List.all_eq_true] at h
  refine ⟨h.1, fun e he => ?_, fun e he => ?_⟩ <;>
  · have := h.2 e he
    simp only [okS, Bool.not_eq_true', Bool.or_eq_false_iff, decide_eq_false_iff_not] at this
    omega
/-- The texts of entries whose bytes are few. -/
theorem lens_enc (l : List En) : Lens l (encE l).length := by
  intro e he
  have h1 : ∀ (t : List UInt8), t.length ≤ (textB t).length := fun t => by rw [textB, List.length_append]; omega
  have h2 : (entB e).length ≤ (entsB l).length := by
    obtain ⟨s, t, rfl⟩ := List.append_of_mem he
    simp only [entsB, List.flatMap_append, List.flatMap_cons, List.length_append]
    omega
  have h3 := h1 e.path
  have h4 := h1 e.to
  simp only [entB, List.length_append] at h2
  simp only [encE, List.length_append]
  omega
end Go.Proofs.YtiakkfcjdmecdaaDoor
namespace Go.Proofs.YtiakkfcjdmecdaaDoor
open Go.RowKit

/-- Files that may be gone through. -/
def FewF (l : List Fl) : Prop := l.length ≤ 12 ∧ ∀ f ∈ l, f.path.length ≤ 300 ∧ f.to.length ≤ 300 ∧ f.data.length ≤ 200
/-- What Of answers. -/
def OfOut (l : List Fl) (w : World) (e : Ending) (w' : World) : Prop :=
  ∃ u, e = .returned (.tuple #[u, .int .i64 (whyE (toldF 0 l))]) ∧ w.grownBy w' none ∧ RdE w' u (if whyE (toldF 0 l) = 0 then toldF 0 l else [])
def HasOf : Prop := ∀ v l w, RdF w v l → FewF l → Calls Tryd.prog 13 #[v] w (OfOut l w)
def HasRight : Prop := ∀ v l w, RdF w v l → FewF l → Calls Tryd.prog 16 #[v] w (Val (.bool (whyE (toldF 0 l) == 0)) w)
def HasFine : Prop := ∀ v l w, RdE w v l → Lens l 300 → Sizes l → l.length ≤ 20 → Calls Tryd.prog 23 #[v] w (Val (.bool (fineE l)) w)
def HasTotal : Prop := ∀ v l w, RdE w v l → Lens l 300 → Sizes l → l.length ≤ 20 → Calls Tryd.prog 25 #[v] w (Val (.int .i64 (totalE l)) w)
def HasWithin : Prop := ∀ v l (m : Int) w, RdE w v l → Lens l 300 → Sizes l → l.length ≤ 20 → I64 m → Calls Tryd.prog 21 #[v, .int .i64 m] w (EntsOut w (l.take (withinE l m)))
theorem few_lens {l : List Fl} (h : FewF l) : Lens (toldF 0 l) 300 ∧ (toldF 0 l).length ≤ 12 := ⟨toldF_lens (fun f hf => ⟨(h.2 f hf).1, (h.2 f hf).2.1⟩) 0, by rw [toldF_len]; exact h.1⟩
theorem why_made (v : Value) (m : Nat) (l : List En) (w : World) (hr : RdE w v l) (hm : Lens l m) (hmb : m < 1000000) (hnb : l.length ≤ 1000000) :
    Calls Tryd.prog 15 #[v] w (Val (.int .i64 (whyE l)) w) := by
  obtain ⟨A, c, rfl⟩ := hr.form
  exact refWhy_any A l.length c m l w hr hm hmb hnb
theorem same_val (l : List En) (v u : Value) (w : World) (hv : RdE w v l) (hu : RdE w u l) (hl : l.length ≤ 100000) :
    Calls Tryd.prog 17 #[v, u] w (Val (.bool true) w) := by
  obtain ⟨A, c, rfl⟩ := hv.form
  obtain ⟨B, d, rfl⟩ := hu.form
  exact (same_any A l.length c l B l.length d l w hv hu hl).mono fun _ _ ⟨b, he, hb, hg⟩ => ⟨by rw [he, hb.2 rfl], hg⟩
end Go.Proofs.YtiakkfcjdmecdaaDoor
