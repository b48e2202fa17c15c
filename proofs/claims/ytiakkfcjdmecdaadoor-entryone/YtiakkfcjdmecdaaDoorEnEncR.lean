/-
  The document's Encode over this program.
-/
import Derived.Test.YtiakkfcjdmecdaaDoorEnConv
import Derived.Test.YtiakkfcjdmecdaaDoorORef
namespace Go.Proofs.YtiakkfcjdmecdaaDoor
set_option maxRecDepth 1000000
open Go.RowKit

def numB (n : Int) : List UInt8 := enc (norm n)
def textB (l : List UInt8) : List UInt8 := enc l.length ++ l
/-- An entry's five numbers. -/
def numsE (e : En) : List Int := [e.kind, e.mode, e.time, e.beg, e.size]
def numsB (l : List Int) : List UInt8 := l.flatMap numB
def entB (e : En) : List UInt8 := numsB (numsE e) ++ textB e.path ++ textB e.to
def entsB (l : List En) : List UInt8 := l.flatMap entB
/-- All their bytes. -/
def encE (l : List En) : List UInt8 := numB (l.length : Int) ++ entsB l
theorem numB_len (n : Int) : (numB n).length ≤ 6 := O.enc_six _ (norm_le n)
theorem numsB_len : ∀ l : List Int, (numsB l).length ≤ 6 * l.length
  | [] => by simp [numsB]
  | n :: l => by
    have := numsB_len l
    have := numB_len n
    simp only [numsB, List.flatMap_cons, List.length_append, List.length_cons] at *
    omega
theorem textB_len (l : List UInt8) (m : Nat) (h : l.length ≤ m) (hm : m ≤ 1000000) : (textB l).length ≤ 6 + m := by
  have := O.enc_six l.length (by omega)
  simp only [textB, List.length_append]
  omega
theorem entB_len (e : En) (m : Nat) (h : e.path.length ≤ m ∧ e.to.length ≤ m) (hm : m ≤ 1000000) : (entB e).length ≤ 42 + 2 * m := by
  have h1 := numsB_len (numsE e)
  have h2 := textB_len e.path m h.1 hm
  have h3 := textB_len e.to m h.2 hm
  simp only [numsE, List.length_cons, List.length_nil] at h1
  simp only [entB, List.length_append, numsE]
  omega
theorem entsB_len (m : Nat) (hm : m ≤ 1000000) : ∀ l : List En, Lens l m → (entsB l).length ≤ l.length * (42 + 2 * m)
  | [], _ => by simp [entsB]
  | e :: l, h => by
    have h1 := entsB_len m hm l (fun x hx => h x (List.mem_cons_of_mem _ hx))
    have h2 := entB_len e m (h e List.mem_cons_self) hm
    simp only [entsB, List.flatMap_cons, List.length_append, List.length_cons] at *
    rw [Nat.add_mul]
    omega
theorem Lens.take {l : List En} {m : Nat} (h : Lens l m) (k : Nat) : Lens (l.take k) m := fun e he => h e (List.mem_of_mem_take he)
theorem entsB_next (l : List En) (k : Nat) (h : k < l.length) : entsB (l.take (k + 1)) = entsB (l.take k) ++ entB (l.getD k default) := by
  rw [takeE l k h]; simp [entsB]
theorem numsB_next (l : List Int) (k : Nat) (h : k < l.length) : numsB (l.take (k + 1)) = numsB (l.take k) ++ numB (l.getD k 0) := by
  have e : l.take (k + 1) = l.take k ++ [l.getD k 0] := by rw [List.take_add_one, List.getElem?_eq_getElem h]; simp [List.getElem?_eq_getElem h]
  rw [e]; simp [numsB]
theorem entsB_bound (l : List En) (m k : Nat) (hm : Lens l m) (hmb : m ≤ 1000000) (hl : l.length ≤ 100000) : (entsB (l.take k)).length ≤ 200004200000 := by
  have h := entsB_len m hmb (l.take k) (hm.take k)
  have h2 : (l.take k).length ≤ 100000 := by rw [List.length_take]; omega
  have h3 : (l.take k).length * (42 + 2 * m) ≤ 100000 * 2000042 := Nat.mul_le_mul h2 (by omega)
  omega

theorem own_app {w : World} {base : Nat} {v : Value} {X Y : List UInt8} (h : w.ownsRow base 5 1 v (X.length + Y.length) (bytesV X ++ bytesV Y)) : w.ownsRow base 5 1 v (X ++ Y).length (bytesV (X ++ Y)) := by
  rwa [List.length_append, bytesV_app]
theorem grown_rows {w w1 w2 : World} {r0 r : Option Nat} (h : w.grownBy w1 r0) (k : w1.grownBy w2 r) (hr : ∀ b, r = some b → r0 = some b ∨ w.heap.size ≤ b) : w.grownBy w2 r0 :=
  ⟨k.os.trans h.os, k.tape.trans h.tape, k.output.trans h.output, Nat.le_trans h.size k.size, fun i hi hne =>
    (k.block i (Nat.lt_of_lt_of_le hi h.size) (fun e => by rcases hr i e.symm with h' | h'; exact hne h'.symm; omega)).trans (h.block i hi hne)⟩
theorem own_keep8 {w w' : World} {base : Nat} {e : TypeId} {v : Value} {n : Nat} {xs : List Value} (h : w.ownsRow base e 1 v n xs) (hg : w.grownBy w' none) : w'.ownsRow base e 1 v n xs := h.kept hg (by simp; exact Classical.em _)
/-- What Encode has laid so far: a row of the call's own; what else lay there when the round began still lies. -/
structure Laid (w0 w1 W : World) (r0 : Option Nat) (b : Value) (X : List UInt8) : Prop where
  own : W.ownsRow w0.heap.size 5 1 b X.length (bytesV X)
  grown : w0.grownBy W none
  since : w1.grownBy W r0
  row : ∀ g, b.ownBlock = some g → r0 = some g ∨ w1.heap.size ≤ g
theorem Laid.grow {w0 w1 W W' : World} {r0 : Option Nat} {b : Value} {X : List UInt8} (h : Laid w0 w1 W r0 b X) (hg : W.grownBy W' none) : Laid w0 w1 W' r0 b X :=
  ⟨own_keep8 h.own hg, h.grown.trans hg, grown_rows h.since hg (by simp), h.row⟩
theorem Laid.next {w0 w1 W W' : World} {r0 : Option Nat} {b b' : Value} {X Y : List UInt8} (h : Laid w0 w1 W r0 b X) (ho : W'.ownsRow w0.heap.size 5 1 b' (X.length + Y.length) (bytesV X ++ bytesV Y))
    (hg : W.grownBy W' b.ownBlock) (hat : b'.ownBlock = b.ownBlock ∨ b'.ownBlock = some W.heap.size) : Laid w0 w1 W' r0 b' (X ++ Y) := by
  refine ⟨own_app ho, grown_new h.grown hg (fun g e => (h.own.lt g e).1), grown_rows h.since hg h.row, fun g e => ?_⟩
  rcases hat with hat | hat
  · exact h.row g (hat ▸ e)
  · rw [hat] at e
    injection e with e
    have := h.since.size
    omega
theorem Laid.free {w0 w1 W : World} {r0 : Option Nat} {b : Value} {X : List UInt8} {n : Nat} (h : Laid w0 w1 W r0 b X) (hr : ∀ g, r0 = some g → g < n) (hn : n < w1.heap.size) : some n ≠ b.ownBlock := fun e => by
  rcases h.row n e.symm with h' | h'
  · have := hr n h'; omega
  · omega
theorem Laid.base {w0 w1 W : World} {r0 : Option Nat} {b : Value} {X : List UInt8} (h : Laid w0 w1 W r0 b X) : w0.heap.size ≤ W.heap.size := h.grown.size
def intsE (e : En) : List Value := (numsE e).map (fun n => Value.int .i64 n)
theorem nums_at (e : En) (i : Nat) (h : i < 5) : (numsE e |>.map (fun n => Value.int .i64 n))[i]? = some (.int .i64 ((numsE e).getD i 0)) := by
  have hl : i < (numsE e).length := h
  simp [List.getElem?_eq_getElem hl]

set_option maxRecDepth 100000 in
set_option maxHeartbeats 8000000 in
theorem refEncode_any (A : Option Addr) (n c m : Nat) (l : List En) (w : World) (hr : RdE w (.slice A n c) l) (hm : Lens l m) (hmb : m ≤ 1000000) (hnb : n ≤ 100000) :
    Calls Tryd.prog 29 #[.slice A n c] w (OutO w (encE l)) := by
  have hln := hr.len.1
  subst hln
  have HR := Lib.hid hr
  have HM := Lib.hid hm
  have HB := Lib.hid (fun k => entsB_bound l m k hm hmb hnb)
  have HX := Lib.hid (show encE l = numB (l.length : Int) ++ entsB l from rfl)
  have HN0 := Lib.hid (show numB (l.length : Int) = enc (norm (l.length : Int)) from rfl)
  have H6 := Lib.hid (numB_len (l.length : Int))
  clear hr hm
  go_enter Tryd.func29, Tryd.ntmps29
  go_wp2_with fail
  refine (O.refNumber_any _ _).mono ?_
  rintro e0 w1 ⟨v1, rfl, ho1, hg1⟩
  rw [← HN0.out] at ho1
  have HO1 := Lib.hid ho1
  have HG1 := Lib.hid hg1
  clear ho1 hg1
  go_wp2
  go_loopw [3, 4] (fun b i W => ∃ k : Nat, k ≤ l.length ∧ i = .int .i64 k ∧ Laid w w W none b (numB (l.length : Int) ++ entsB (l.take k))) (fun _ i _ => l.length - (intOf i).toNat)
  case atStart =>
    refine ⟨0, Nat.zero_le _, rfl, ?_, HG1.out, HG1.out, fun g e => .inr (HO1.out.lt g e).1⟩
    have e0 : numB (l.length : Int) ++ entsB (l.take 0) = numB (l.length : Int) := by simp [entsB]
    rw [e0]
    exact HO1.out
  case round =>
    obtain ⟨k, hk, rfl, hL⟩ := hrel
    have HL := Lib.hid hL
    clear hL
    by_cases h : k < l.length
    · have d0 : decide ((k : Int) < (l.length : Int)) = true := by simp; omega
      obtain ⟨ad, rfl, c0, c1, c2, c3, c4, c5, c6⟩ := (HR.out.grown0 HL.out.grown).step h
      have HNX := Lib.hid (entsB_next l k h)
      have HLN := Lib.hid (HM.out _ (show l.getD k default ∈ l by simp [List.getElem?_eq_getElem h]))
      generalize l.getD k default = e at *
      go_wp2
      have R5 : Row ((wr.alloc (.cells (enC e).toArray 66)).alloc (.cells (intsE e).toArray 3)) wr.heap.size 66 (enC e) := (Row.new wr _ (enC e)).alloc _
      have R6 : Row ((wr.alloc (.cells (enC e).toArray 66)).alloc (.cells (intsE e).toArray 3)) (wr.heap.size + 1) 3 (intsE e) := by
        have := Row.new (wr.alloc (.cells (enC e).toArray 66)) 3 (intsE e)
        rwa [World.size_alloc] at this
      have G0 : wr.grownBy ((wr.alloc (.cells (enC e).toArray 66)).alloc (.cells (intsE e).toArray 3)) none := grown_alloc (grown_alloc (grown_refl _ _) _) _
      have hsz : ((wr.alloc (.cells (enC e).toArray 66)).alloc (.cells (intsE e).toArray 3)).heap.size = wr.heap.size + 2 := by simp
      show Code.wp _ _ _ _ ((wr.alloc (.cells (enC e).toArray 66)).alloc (.cells (intsE e).toArray 3))
      generalize ((wr.alloc (.cells (enC e).toArray 66)).alloc (.cells (intsE e).toArray 3)) = W6 at *
      have R5' := Lib.hid R5
      have R6' := Lib.hid R6
      have HL6 := Lib.hid (HL.out.grow G0)
      have HOB := Lib.hid (fun g (e : u3.ownBlock = some g) => (HL.out.own.lt g e).2)
      have HS := Lib.hid hsz
      clear R5 R6 G0 hsz c0 c1 c2 c3 c4 c5 c6
      go_loopw [3, 7] (fun b i W => ∃ j : Nat, j ≤ 5 ∧ i = .int .i64 j ∧ Laid w W6 W u3.ownBlock b ((numB (l.length : Int) ++ entsB (l.take k)) ++ numsB ((numsE e).take j))) (fun _ i _ => 5 - (intOf i).toNat)
      case atStart =>
        refine ⟨0, by decide, rfl, ?_⟩
        have e0 : numB (l.length : Int) ++ entsB (l.take k) ++ numsB ((numsE e).take 0) = numB (l.length : Int) ++ entsB (l.take k) := by simp [numsB]
        rw [e0]
        exact ⟨HL6.out.own, HL6.out.grown, grown_refl _ _, fun g e => .inl e⟩
      case round =>
        obtain ⟨j, hj, rfl, hL⟩ := hrel
        have HLj := Lib.hid hL
        clear hL
        have hbb := HB.out k
        have h6 := H6.out
        have hX : (numB (l.length : Int) ++ entsB (l.take k) ++ numsB ((numsE e).take j)).length ≤ 300000000000 := by
          have h7 := numsB_len ((numsE e).take j)
          have h8 : ((numsE e).take j).length ≤ 5 := by rw [List.length_take]; omega
          simp only [List.length_append]
          omega
        by_cases hj5 : j < 5
        · have d1 : decide ((j : Int) < 5) = true := by simp; omega
          have HNJ := Lib.hid (numsB_next (numsE e) j hj5)
          have cj := (R6'.out.grown HLj.out.since (fun e => by have := HOB.out _ e.symm; omega)).cell (nums_at e j hj5)
          generalize (numsE e).getD j 0 = x at *
          generalize hXe : (numB (l.length : Int) ++ entsB (l.take k) ++ numsB ((numsE e).take j)) = X at *
          have HXE := Lib.hid hXe
          clear hXe
          go_wp2_with fail
          refine (O.refNumber_any _ _).mono ?_
          rintro e0 w2 ⟨v2, rfl, ho2, hg2⟩
          have HL2 := Lib.hid (HLj.out.grow hg2)
          have HR2 := Lib.hid (Rd.of_own ho2)
          have h62 := O.enc_six (norm x) (norm_le x)
          clear ho2 hg2 cj
          go_wp2_with (at_builtin; refine wpList_append_bytes _ rfl _ _ rfl w.heap.size _ X.length (bytesV X) rfl HL2.out.own _ (enc (norm x)) rfl HR2.out (by omega) HL2.out.base ?_; intro v7 w7 ho7 hg7 hat7; have HL7 := Lib.hid (HL2.out.next ho7 hg7 hat7); clear ho7 hg7 hat7)
          go_roundw
          case rel =>
            refine ⟨j + 1, by omega, by go_num, ?_⟩
            rw [HNJ.out, ← List.append_assoc, HXE.out]
            exact HL7.out
          case measure => simp only [intOf]; omega
        · have hjj : j = 5 := by omega
          subst hjj
          have d1 : decide (((5 : Nat) : Int) < 5) = false := by decide
          rw [show (numsE e).take 5 = numsE e from rfl] at HLj hX
          clear hbb h6
          generalize hXe : (numB (l.length : Int) ++ entsB (l.take k) ++ numsB (numsE e)) = X at *
          have HXE := Lib.hid hXe
          have HX3 := Lib.hid hX
          have HLE := Lib.hid (show e.path.length ≤ 1000000 ∧ e.to.length ≤ 1000000 from ⟨Nat.le_trans (HLN.out).1 hmb, Nat.le_trans (HLN.out).2 hmb⟩)
          have h51 := (R5'.out.grown HLj.out.since (fun e => by have := HOB.out _ e.symm; omega))
          have cp := h51.cell (j := 0) rfl
          have H51 := Lib.hid h51
          clear hXe hX h51
          go_wp2_with (refine wpList_bytesOf _ rfl _ rfl e.path rfl (by have := HLE.out.1; omega) ?_; intro v2 w2 hr2 hg2; have HL2 := Lib.hid (HLj.out.grow hg2); have HR2 := Lib.hid hr2; have H52 := Lib.hid (H51.out.grown0 hg2); clear hr2 hg2 cp)
          refine (O.refBytes_out _ _ _ HR2.out (by have := HLE.out.1; omega)).mono ?_
          rintro e0 w3 ⟨v3, rfl, hr3, hg3, _⟩
          have HL3 := Lib.hid (HL2.out.grow hg3)
          have HR3 := Lib.hid hr3
          have H53 := Lib.hid (H52.out.grown0 hg3)
          clear hr3 hg3
          go_wp2_with (first
            | (at_builtin; refine wpList_append_bytes _ rfl _ _ rfl w.heap.size _ X.length (bytesV X) rfl HL3.out.own _ (textB e.path) rfl HR3.out (by have := textB_len e.path _ HLE.out.1 (Nat.le_refl _); have := HX3.out; omega) HL3.out.base ?_; intro v4 w4 ho4 hg4 hat4; have HL4 := Lib.hid (HL3.out.next ho4 hg4 hat4); have H54 := Lib.hid (H53.out.grown hg4 (Laid.free HL3.out HOB.out (by rw [HS.out]; omega))); have cq := H54.out.cell (j := 4) rfl; clear ho4 hg4 hat4)
            | (refine wpList_bytesOf _ rfl _ rfl e.to rfl (by have := HLE.out.2; omega) ?_; intro v5 w5 hr5 hg5; have HL5 := Lib.hid (HL4.out.grow hg5); have HR5 := Lib.hid hr5; clear hr5 hg5 cq))
          refine (O.refBytes_out _ _ _ HR5.out (by have := HLE.out.2; omega)).mono ?_
          rintro e1 w6 ⟨v6, rfl, hr6, hg6, _⟩
          have HL6' := Lib.hid (HL5.out.grow hg6)
          have HR6 := Lib.hid hr6
          clear hr6 hg6
          go_wp2_with (at_builtin; refine wpList_append_bytes _ rfl _ _ rfl w.heap.size _ (X ++ textB e.path).length (bytesV (X ++ textB e.path)) rfl HL6'.out.own _ (textB e.to) rfl HR6.out (by have := textB_len e.path _ HLE.out.1 (Nat.le_refl _); have := textB_len e.to _ HLE.out.2 (Nat.le_refl _); have := HX3.out; rw [List.length_append]; omega) HL6'.out.base ?_; intro v7 w7 ho7 hg7 hat7; have HL7 := Lib.hid (HL6'.out.next ho7 hg7 hat7); clear ho7 hg7 hat7)
          go_roundw
          case rel =>
            refine ⟨k + 1, h, by go_num, ?_⟩
            have e9 : numB (l.length : Int) ++ entsB (l.take (k + 1)) = X ++ textB e.path ++ textB e.to := by rw [HNX.out, ← HXE.out, entB]; simp only [List.append_assoc]
            rw [e9]
            exact ⟨HL7.out.own, HL7.out.grown, HL7.out.grown, fun g e => .inr (HL7.out.own.lt g e).1⟩
          case measure => simp only [intOf]; omega
    · have hkl : l.take k = l := List.take_of_length_le (by omega)
      have d0 : decide ((k : Int) < (l.length : Int)) = false := decide_eq_false (by omega)
      have HO := HL.out.own
      rw [hkl, ← HX.out] at HO
      have HO2 := Lib.hid HO
      clear HO
      go_wp2
      go_ret
      exact ⟨_, rfl, HO2.out, HL.out.grown⟩
end Go.Proofs.YtiakkfcjdmecdaaDoor
