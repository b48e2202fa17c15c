/-
  The document's own tree of layer 11 over this program; the document's chances and the program's.
-/
import Derived.Test.YtibofgokdjbomaaPkRbit
import Derived.Test.YtibofgokdjbomaaPkM
namespace Go.Proofs.Ytibofgokdjbomaa
set_option maxRecDepth 1000000
open Go.RowKit

/-- Where the document keeps the chance that the program keeps at a place. -/
def refKey (p : Nat) : Int := if p < 2 then (p : Int) else if p < 2050 then 10000 + 1000 * (((p - 2) / 256 : Nat) : Int) + (((p - 2) % 256 : Nat) : Int) else if p < 2306 then 1000 + ((p - 2050 : Nat) : Int) else 2000 + ((p - 2306 : Nat) : Int)
theorem refKey_inj {p q : Nat} (hp : p < 2322) (hq : q < 2322) (h : refKey p = refKey q) : p = q := by
  unfold refKey at h
  split at h <;> split at h <;> (try split at h) <;> (try split at h) <;> (try split at h) <;> (try split at h) <;> omega
theorem refKey_fits {p : Nat} (hp : p < 2322) : 0 ≤ refKey p ∧ refKey p ≤ 100000 := by
  unfold refKey
  split
  · omega
  · split
    · omega
    · split <;> omega
/-- The document's chances are the program's. -/
def MR (M : Int → Option Int) (L : List Nat) : Prop := ∀ p, p < 2322 → (M (refKey p)).getD 1024 = ((L.getD p 0 : Nat) : Int)
theorem MR.begin : MR (fun _ => none) (List.replicate 2322 1024) := by
  intro p hp
  rw [List.getD_eq_getElem?_getD, List.getElem?_replicate, if_pos hp]
  rfl
theorem MR.set {M : Int → Option Int} {L : List Nat} (h : MR M L) (hl : L.length = 2322) {p : Nat} (hp : p < 2322) (c : Nat) : MR (fun y => if y = refKey p then some (c : Int) else M y) (L.set p c) := by
  intro q hq
  by_cases e : q = p
  · subst e
    show ((if refKey q = refKey q then some (c : Int) else M (refKey q))).getD 1024 = _
    rw [if_pos rfl, List.getD_eq_getElem?_getD, List.getElem?_set_self (by omega)]
    rfl
  · show ((if refKey q = refKey p then some (c : Int) else M (refKey q))).getD 1024 = _
    rw [if_neg (fun e2 => e (refKey_inj hq hp e2)), h q hq, List.getD_eq_getElem?_getD, List.getD_eq_getElem?_getD, List.getElem?_set_ne (fun e2 => e e2.symm)]
/-- A state of the document's, as a call answers it. -/
def TOutR (v0 : Value) (O : List UInt8) (gb n : Nat) (p : Cst × List Nat) (w : World) (e : Ending) (w' : World) : Prop :=
  ∃ v M, e = .returned (sV v p.1 gb) ∧ Rd w' v (bytesV p.1.out) ∧ Mi w' gb n M ∧ MR M p.2 ∧ w.grownBy w' (some gb) ∧ (p.1.out ≠ [] → ∀ k, v.ownBlock = some k → (O ≠ [] ∧ v0.ownBlock = some k) ∨ w.heap.size ≤ k)
theorem bitK_any (v : Value) (S : Cst) (gb n : Nat) (M : Int → Option Int) (L : List Nat) (p : Nat) (kk : Int) (b : Bool) (w : World) (hr : Rd w v (bytesV S.out)) (hm : Mi w gb n M) (hM : MR M L) (hll : L.length = 2322) (hL : Okl L) (hp : p < 2322) (hk : kk = refKey p) (hs : Okc S) (hl : S.out.length ≤ 100000) (hn : n ≤ 1000000) :
    Calls Try.prog 49 #[sV v S gb, .int .i64 kk, .int .i64 (b.toNat : Int)] w (TOutR v S.out gb (n + 1) (bitS S L p b) w) := by
  subst hk
  have hf := refKey_fits hp
  refine (bitR_any v S gb n M (refKey p) (L.getD p 0) b w hr hm (hM p hp) ⟨by omega, by omega⟩ hs (hL.at_ (by omega)) hl hn).mono ?_
  rintro e w' ⟨v', rfl, h1, h2, h3, h4⟩
  exact ⟨v', _, rfl, h1, h2, hM.set hll hp _, h3, h4⟩
/-- In the midst of a tree. -/
structure TrR (w W : World) (gs gb n : Nat) (v0 : Value) (O : List UInt8) (v : Value) (S : Cst) (L : List Nat) : Prop where
  row : Row W gs 96 (sC v S gb)
  rd : Rd W v (bytesV S.out)
  map : ∃ M, Mi W gb n M ∧ MR M L
  zero : Row W (gs + 1) 96 [.slice none 0 0, .int .i64 0, .int .i64 0, .map none]
  grow : w.grownBy W (some gb)
  sep : S.out ≠ [] → ∀ k, v.ownBlock = some k → (O ≠ [] ∧ v0.ownBlock = some k) ∨ w.heap.size ≤ k
set_option maxHeartbeats 8000000 in
theorem treeR_any (v0 : Value) (S0 : Cst) (gb n0 : Nat) (M0 : Int → Option Int) (L0 : List Nat) (base m : Nat) (fk : Int) (n B : Nat) (w : World) (hr : Rd w v0 (bytesV S0.out)) (hm : Mi w gb n0 M0) (hM : MR M0 L0) (hll : L0.length = 2322) (hL : Okl L0) (hbm : base + m ≤ 2322) (hk : ∀ q, q < m → refKey (base + q) = fk + (q : Int)) (hf : 0 ≤ fk ∧ fk ≤ 100000) (hs : Okw S0) (hl : S0.out.length ≤ 90000) (hn0 : n0 ≤ 900000) (hB : B ≤ 16) (hBm : (1 + 1) * 2 ^ B ≤ 2 * m) (hn : n ≤ 1000000) :
    Calls Try.prog 50 #[sV v0 S0 gb, .int .i64 fk, .int .i64 (n : Int), .int .i64 (B : Int)] w (TOutR v0 S0.out gb (n0 + B) (treeB S0 L0 base (n : Int) B 1) w) := by
  obtain ⟨gs, hgs⟩ : ∃ g, w.heap.size = g := ⟨_, rfl⟩
  obtain ⟨W0, hW0⟩ : ∃ W, (w.alloc (.cells #[v0, .int .i64 (S0.low : Int), .int .i64 (S0.width : Int), .map (some gb)] 96)).alloc (.cells #[.slice none 0 0, .int .i64 0, .int .i64 0, .map none] 96) = W := ⟨_, rfl⟩
  have hG0 : w.grownBy W0 none := by rw [← hW0]; exact grown_alloc (grown_alloc (grown_refl _ _) _) _
  have HS := Lib.hid (show TrR w W0 gs gb n0 v0 S0.out v0 S0 L0 from
    ⟨by rw [← hW0]; exact (Row.newAt w _ (sC v0 S0 gb) hgs).alloc _, hr.grown0 hG0, ⟨M0, hm.grown0 hG0, hM⟩, by rw [← hW0]; exact Row.newAt _ _ [.slice none 0 0, .int .i64 0, .int .i64 0, .map none] (by simp [hgs]), ⟨hG0.os, hG0.tape, hG0.output, hG0.size, fun k hk _ => hG0.block k hk (by simp)⟩, fun he k hk => .inl ⟨he, hk⟩⟩)
  have HGB := Lib.hid (show gb < gs by rw [← hgs]; exact hm.lt)
  have HGS := Lib.hid hgs
  have HK := Lib.hid hk
  have HBM := Lib.hid hbm
  have HF := Lib.hid hf
  have HN0 := Lib.hid hn0
  have HSL := Lib.hid hl
  have HNN := Lib.hid hn
  have HOK := Lib.hid (And.intro hs (And.intro hL (And.intro hll hBm)))
  have hwB : IntKind.i64.wrap ((B : Int) - 1) = (B : Int) - 1 := by rw [IntKind.wrap_i64]; omega
  clear hr hm hM hll hL hbm hk hf hs hl hn0 hBm hn hG0
  unfold sV
  go_enter Try.func50, Try.ntmps50
  go_wp2
  clear hW0 hgs
  go_loopw [9, 10] (fun at_ i W => ∃ (j p n' : Nat) (v : Value) (S : Cst) (L : List Nat), j ≤ B ∧ i = .int .i64 ((j : Int) - 1) ∧ at_ = .int .i64 (p : Int) ∧ (Okw S ∧ Okl L ∧ L.length = 2322 ∧ (p + 1) * 2 ^ j ≤ 2 * m) ∧ (S.out.length + j ≤ S0.out.length + B ∧ n' + j = n0 + B) ∧ treeB S L base (n : Int) j p = treeB S0 L0 base (n : Int) B 1 ∧ TrR w W gs gb n' v0 S0.out v S L) (fun _ i _ => (intOf i + 1).toNat)
  case atStart => exact ⟨B, 1, n0, v0, S0, L0, Nat.le_refl _, rfl, rfl, ⟨HOK.out.1, HOK.out.2.1, HOK.out.2.2.1, HOK.out.2.2.2⟩, ⟨Nat.le_refl _, rfl⟩, rfl, HS.out⟩
  case round =>
    obtain ⟨j, p, n', v, S, L, hj, rfl, rfl, ho, hln, htr, hh⟩ := hrel
    have HH := Lib.hid hh
    have HO := Lib.hid ho
    have HLN := Lib.hid hln
    have HTR := Lib.hid htr
    clear ho hln htr HS
    cases j with
    | zero =>
      have hd : decide (0 ≤ ((0 : Nat) : Int) - 1) = false := rfl
      obtain ⟨M, hm1, hm2⟩ := hh.map
      have HM := Lib.hid (And.intro hm1 hm2)
      have hn1 : n' = n0 + B := by have := HLN.out.2; omega
      have HT2 := Lib.hid (show (S, L) = treeB S0 L0 base (n : Int) B 1 from HTR.out)
      subst hn1
      clear hh
      go_wp2_with (first
        | refine wpList_load_row _ rfl _ 96 rfl gs 96 _ _ rfl HH.out.row Try.underlying96 rfl (by kernel_rfl) ?_
        | (refine wpList_store_row _ rfl rfl _ _ 96 rfl (gs + 1) 96 _ (sC v S gb) rfl rfl HH.out.zero rfl (by obtain ⟨A, c, rfl⟩ := HH.out.rd.form; simp [sC, Value.oneCell']) (by kernel_rfl) ?_; intro w5 hr5 hg5))
      rw [← HT2.out]
      refine bodyPost_ret (v := sV v S gb) (results_row Try.results50 (gs + 1) 96 _ _ rfl hr5 Try.underlying96 rfl (by kernel_rfl)) rfl ?_
      have HG4 := HH.out.grow
      exact ⟨v, M, rfl, HH.out.rd.keepT HH.out.zero (by simp) hg5, HM.out.1.kept hg5 (fun e => by have h1 := Option.some.inj e; have := HGB.out; omega), HM.out.2, ⟨hg5.os.trans HG4.os, hg5.tape.trans HG4.tape, hg5.output.trans HG4.output, Nat.le_trans HG4.size hg5.size, fun k hk hne => (hg5.block k (Nat.lt_of_lt_of_le hk HG4.size) (fun e => by have h1 := Option.some.inj e; have := HGS.out; omega)).trans (HG4.block k hk hne)⟩, HH.out.sep⟩
    | succ jj =>
      have hd : decide (0 ≤ ((jj + 1 : Nat) : Int) - 1) = true := by rw [decide_eq_true_eq]; omega
      rw [show ((jj + 1 : Nat) : Int) - 1 = (jj : Int) by omega] at *
      have hpl : p < m := tree_lt HO.out.2.2.2
      obtain ⟨M, hm1, hm2⟩ := hh.map
      have HM := Lib.hid (And.intro hm1 hm2)
      have HBA := Lib.hid (bitAtR_any n jj HNN.out (by omega) wr)
      have hfk := HF.out
      have hbm := HBM.out
      have hwf : IntKind.i64.wrap (fk + (p : Int)) = fk + (p : Int) := by rw [IntKind.wrap_i64]; omega
      obtain ⟨bb, hbb⟩ : ∃ bb, bitAt (n : Int) jj = bb := ⟨_, rfl⟩
      rw [hbb] at HBA
      have hb1 := bit_le bb
      have HTR2 := Lib.hid (show treeB (bitS S L (base + p) bb).1 (bitS S L (base + p) bb).2 base (n : Int) jj (2 * p + bb.toNat) = treeB S0 L0 base (n : Int) B 1 by
        have h := HTR.out
        rw [treeB, hbb] at h
        exact h)
      have HNX := Lib.hid (show Okw (bitS S L (base + p) bb).1 ∧ Okl (bitS S L (base + p) bb).2 ∧ (bitS S L (base + p) bb).2.length = 2322 ∧ (2 * p + bb.toNat + 1) * 2 ^ jj ≤ 2 * m from ⟨(bitS_okw bb HO.out.1 HO.out.2.1 (by rw [HO.out.2.2.1]; omega)).1, (bitS_okw bb HO.out.1 HO.out.2.1 (by rw [HO.out.2.2.1]; omega)).2, (bitS_len _ _ _ _).trans HO.out.2.2.1, tree_next bb HO.out.2.2.2⟩)
      have HNL := Lib.hid (show (bitS S L (base + p) bb).1.out.length + jj ≤ S0.out.length + B by
        have := putS_len S (S.width / 2048 * L.getD (base + p) 0) bb
        have := HLN.out.1
        show (putS _ _ _).out.length + jj ≤ _
        omega)
      have HBK := Lib.hid (fun W (h1 : Rd W v (bytesV S.out)) (h2 : Mi W gb n' M) => bitK_any v S gb n' M L (base + p) (fk + (p : Int)) bb W h1 h2 HM.out.2 HO.out.2.2.1 HO.out.2.1 (by omega) (HK.out p hpl).symm HO.out.1.ok (by have := HLN.out.1; have := HSL.out; omega) (by have := HLN.out.2; have := HN0.out; omega))
      generalize bitS S L (base + p) bb = S1 at *
      have hp3 : p ≤ 3000 := by omega
      have hb2 : (bb.toNat : Int) ≤ 1 := by omega
      have hw1 : IntKind.i64.wrap ((p : Int) * 2) = (p : Int) * 2 := by rw [IntKind.wrap_i64]; omega
      have hw2 : IntKind.i64.wrap ((p : Int) * 2 + (bb.toNat : Int)) = (p : Int) * 2 + (bb.toNat : Int) := by rw [IntKind.wrap_i64]; omega
      have hw3 : IntKind.i64.wrap ((jj : Int) - 1) = (jj : Int) - 1 := by rw [IntKind.wrap_i64]; omega
      generalize bb.toNat = bn at *
      clear hh hm1 hm2 hbb hfk hbm
      go_wp2_with fail
      refine HBA.out.mono ?_
      rintro e w2 ⟨rfl, hg2⟩
      have HR2 := Lib.hid (HH.out.row.grown0 hg2)
      have HD2 := Lib.hid (HH.out.rd.grown0 hg2)
      have HM2 := Lib.hid (HM.out.1.grown0 hg2)
      have HZ2 := Lib.hid (HH.out.zero.grown0 hg2)
      have HG2 := Lib.hid (show w.grownBy w2 (some gb) from grown_trans2 HH.out.grow ⟨hg2.os, hg2.tape, hg2.output, hg2.size, fun k hk _ => hg2.block k hk (by simp)⟩)
      have HSP := Lib.hid HH.out.sep
      clear hg2 HBA
      go_wp2_with (refine wpList_load_row _ rfl _ 96 rfl gs 96 _ _ rfl HR2.out Try.underlying96 rfl (by kernel_rfl) ?_)
      refine (HBK.out w2 HD2.out HM2.out).mono ?_
      rintro e w3 ⟨v3, M3, rfl, hr3, hm3, hM3, hg3, hs3⟩
      have HR3 := Lib.hid (HR2.out.grown hg3 (fun e => by have h1 := Option.some.inj e; have := HGB.out; omega))
      have HZ3 := Lib.hid (HZ2.out.grown hg3 (fun e => by have h1 := Option.some.inj e; have := HGB.out; omega))
      have HG3 := Lib.hid (grown_trans2 HG2.out hg3)
      have HV3 := Lib.hid (show Rd w3 v3 (bytesV S1.1.out) ∧ Mi w3 gb (n' + 1) M3 ∧ MR M3 S1.2 from ⟨hr3, hm3, hM3⟩)
      have HS3 := Lib.hid (show S1.1.out ≠ [] → ∀ k, v3.ownBlock = some k → (S0.out ≠ [] ∧ v0.ownBlock = some k) ∨ w.heap.size ≤ k from fun he k hk => by
        rcases hs3 he k hk with ⟨h1, h2⟩ | h1
        · exact HSP.out h1 k h2
        · exact .inr (Nat.le_trans HG2.out.size h1))
      clear hr3 hm3 hM3 hg3 hs3 HBK HR2 HD2 HM2 HZ2 HG2
      go_wp2_with (refine wpList_store_row _ rfl rfl _ _ 96 rfl gs 96 _ (sC v3 S1.1 gb) rfl rfl HR3.out rfl (by obtain ⟨A, c, rfl⟩ := HV3.out.1.form; simp [sC, Value.oneCell']) (by kernel_rfl) ?_; intro w4 hr4 hg4; have HR4 := Lib.hid hr4; have HG4 := Lib.hid hg4; clear hr4 hg4)
      go_roundw
      case rel =>
        have hg3 := HG3.out
        have hg4 := HG4.out
        refine ⟨jj, 2 * p + bn, n' + 1, v3, S1.1, S1.2, by omega, rfl, by go_num, HNX.out, ⟨HNL.out, by have := HLN.out.2; omega⟩, HTR2.out, ⟨HR4.out, HV3.out.1.keepT HR3.out (by simp [sC]; obtain ⟨A, c, e⟩ := HH.out.rd.form; rw [e]; simp) hg4, ⟨M3, HV3.out.2.1.kept hg4 (fun e => by have h1 := Option.some.inj e; have := HGB.out; omega), HV3.out.2.2⟩, HZ3.out.grown hg4 (fun e => by have h1 := Option.some.inj e; omega), ⟨hg4.os.trans hg3.os, hg4.tape.trans hg3.tape, hg4.output.trans hg3.output, Nat.le_trans hg3.size hg4.size, fun k hk hne => (hg4.block k (Nat.lt_of_lt_of_le hk hg3.size) (fun e => by have h1 := Option.some.inj e; have := HGS.out; omega)).trans (hg3.block k hk hne)⟩, HS3.out⟩⟩
      case measure => simp only [intOf]; omega
end Go.Proofs.Ytibofgokdjbomaa
