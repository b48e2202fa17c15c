/-
  digest.turned over this program: a state behind the 64 turns of a block's words.
-/
import Derived.Test.YtmhcfbfdbminnaaDoorDigWords
import Derived.BigQuiet
namespace Go.Proofs.YtmhcfbfdbminnaaDoor
open Go.RowKit

/-- The table of roots lies in its variable. -/
def Tab (w : World) : Prop := ∀ i, i < 64 → w.cell? ⟨0, i, none⟩ = some (.int .u32 ((kAt i).toNat : Int))
theorem Tab.grown {w w' : World} (h : Tab w) (hg : w.grownBy w' none) : Tab w' := fun i hi => by
  have h0 := h i hi
  have hlt := World.block_lt_of_cell? w _ h0
  rw [← h0]
  exact World.cell?_of_block (hg.block _ hlt (by simp))
theorem Tab.alloc {w : World} (h : Tab w) (o : Obj) : Tab (w.alloc o) := h.grown (grown_alloc (grown_refl _ _) _)

/-- An element of an array of words. -/
theorem run_index_words (t : TypeId) (n : Nat) (hu : Tryd.prog.underlying t = some (.array n 43)) (l : List W32) (hl : l.length = n) (k : Nat) (hk : k < n) (w : World) :
    (Instr.index t (.agg (wordsV l).toArray) (.int .i64 (k : Int))).run Tryd.prog w = .ok (.int .u32 ((l.getD k 0).toNat : Int)) w := by
  have h1 : (k : Int) < (n : Int) := by omega
  have hg : (wordsV l)[k]? = some (.int .u32 ((l.getD k 0).toNat : Int)) := by
    simp [wordsV, wordV, List.getElem?_eq_getElem (show k < l.length by omega)]
  simp only [Instr.index, asIntOf, Sem.run_bind, Sem.run_pure, Result.andThen_ok, run_underlying hu]
  simp [go_sem, h1, part, hg]

theorem and32 (a b : BitVec 32) : bits .and .u32 (a.toNat : Int) (b.toNat : Int) = ((a &&& b).toNat : Int) := by
  rw [u32_and_nat _ _ a.isLt b.isLt, BitVec.toNat_and]
theorem or32 (a b : BitVec 32) : bits .or .u32 (a.toNat : Int) (b.toNat : Int) = ((a ||| b).toNat : Int) := by
  rw [u32_or_nat _ _ a.isLt b.isLt, BitVec.toNat_or]
theorem not32 (n : BitVec 32) : bits .xor .u32 IntKind.u32.max (n.toNat : Int) = ((~~~ n).toNat : Int) := by
  have h : IntKind.u32.max = (((BitVec.allOnes 32).toNat : Nat) : Int) := by decide
  rw [h, xor32, BitVec.xor_comm, BitVec.xor_allOnes]

theorem tt_bits (e f g h k w : W32) (a b c d : W32) : (((h.toNat : Int) + bits .xor .u32 (bits .xor .u32 ((rr 6 e).toNat : Int) ((rr 11 e).toNat : Int)) ((rr 25 e).toNat : Int) + bits .or .u32 (bits .and .u32 (e.toNat : Int) (f.toNat : Int)) (bits .and .u32 (bits .xor .u32 (if IntKind.u32.signed = true then -1 else IntKind.u32.max) (e.toNat : Int)) (g.toNat : Int)) + (k.toNat : Int)) % 4294967296 + (w.toNat : Int)) % 4294967296 = ((tt ⟨a, b, c, d, e, f, g, h⟩ k w).toNat : Int) := by
  have hs : (if IntKind.u32.signed = true then (-1 : Int) else IntKind.u32.max) = IntKind.u32.max := rfl
  rw [hs, xor32, xor32, and32, not32, and32, or32]
  show _ = ((h + big1 e + ch e f g + k + w).toNat : Int)
  rw [BitVec.toNat_add, BitVec.toNat_add, BitVec.toNat_add, BitVec.toNat_add]
  unfold big1 ch
  omega
theorem uu_bits (a b c : W32) (d e f g h : W32) : ((bits .xor .u32 (bits .xor .u32 ((rr 2 a).toNat : Int) ((rr 13 a).toNat : Int)) ((rr 22 a).toNat : Int) + bits .xor .u32 (bits .xor .u32 (bits .and .u32 (a.toNat : Int) (b.toNat : Int)) (bits .and .u32 (a.toNat : Int) (c.toNat : Int))) (bits .and .u32 (b.toNat : Int) (c.toNat : Int))) % 4294967296) = ((uu ⟨a, b, c, d, e, f, g, h⟩).toNat : Int) := by
  rw [xor32, xor32, and32, and32, and32, xor32, xor32]
  show _ = ((big0 a + maj a b c).toNat : Int)
  rw [BitVec.toNat_add]
  unfold big0 maj
  omega
theorem add_bits (a b : W32) : ((a.toNat : Int) + (b.toNat : Int)) % 4294967296 = ((a + b).toNat : Int) := by
  rw [BitVec.toNat_add]
  omega

def zeros8 : List Value := [.int .u32 0, .int .u32 0, .int .u32 0, .int .u32 0, .int .u32 0, .int .u32 0, .int .u32 0, .int .u32 0]

set_option maxRecDepth 100000 in
set_option maxHeartbeats 4000000 in
theorem turned_any (s : List W32) (hs : s.length = 8) (ws : List W32) (hws : ws.length = 64) (w : World) (hT : Tab w) :
    Calls Tryd.prog 41 #[.agg (wordsV s).toArray, .agg (wordsV ws).toArray] w (Val (.agg (wordsV (rnds 64 (R8.of s) ws).l).toArray) w) := by
  have HS := Lib.hid hs
  have HWS := Lib.hid hws
  have HT := Lib.hid hT
  clear hs hws hT
  generalize hG : w.heap.size = G
  have HG := Lib.hid hG
  go_enter Tryd.func41, Tryd.ntmps41
  go_wp2
  have r1 := ((Row.newAt w 44 (wordsV s) HG.out).alloc (.cells (wordsV ws).toArray 64)).alloc (.cells zeros8.toArray 44)
  have r2 := (Row.newAt (w.alloc (.cells (wordsV s).toArray 44)) 64 (wordsV ws) (g := G + 1) (by simp [HG.out])).alloc (.cells zeros8.toArray 44)
  have r3 := Row.newAt ((w.alloc (.cells (wordsV s).toArray 44)).alloc (.cells (wordsV ws).toArray 64)) 44 zeros8 (g := G + 1 + 1) (by simp [HG.out])
  have hg := grown_alloc (grown_alloc (grown_alloc (grown_refl w none) (.cells (wordsV s).toArray 44)) (.cells (wordsV ws).toArray 64)) (.cells zeros8.toArray 44)
  simp only [zeros8] at r1 r2 r3 hg
  generalize hW : ((w.alloc (.cells (wordsV s).toArray 44)).alloc (.cells (wordsV ws).toArray 64)).alloc _ = W at *
  clear hW hG
  have at_ : ∀ j, j < 8 → W.cell? ⟨G, j, none⟩ = some (.int .u32 ((s.getD j 0).toNat : Int)) := fun j hj => r1.cell (by
    have := HS.out
    simp [wordsV, wordV, List.getElem?_eq_getElem (show j < s.length by omega)])
  have c0 := at_ 0 (by decide)
  have c1 := at_ 1 (by decide)
  have c2 := at_ 2 (by decide)
  have c3 := at_ 3 (by decide)
  have c4 := at_ 4 (by decide)
  have c5 := at_ 5 (by decide)
  have c6 := at_ 6 (by decide)
  have c7 := at_ 7 (by decide)
  have R2 := Lib.hid r2
  have R3 := Lib.hid r3
  have HGR := Lib.hid hg
  clear at_ r1 r2 r3 hg
  have hS0 : R8.of s = ⟨s.getD 0 0, s.getD 1 0, s.getD 2 0, s.getD 3 0, s.getD 4 0, s.getD 5 0, s.getD 6 0, s.getD 7 0⟩ := rfl
  have HS0 := Lib.hid hS0
  clear hS0
  generalize s.getD 0 0 = x0 at *
  generalize s.getD 1 0 = x1 at *
  generalize s.getD 2 0 = x2 at *
  generalize s.getD 3 0 = x3 at *
  generalize s.getD 4 0 = x4 at *
  generalize s.getD 5 0 = x5 at *
  generalize s.getD 6 0 = x6 at *
  generalize s.getD 7 0 = x7 at *
  generalize R8.of s = S at *
  go_quiet (fail)
  clear c0 c1 c2 c3 c4 c5 c6 c7
  have r2 := R2.out.drewN nq
  have r3 := R3.out.drewN nq
  have hg := grown_drewN HGR.out nq
  generalize hW : W.drewN nq = W1 at *
  clear hW R2 R3 HGR
  have R2 := Lib.hid r2
  have R3 := Lib.hid r3
  have HGR := Lib.hid hg
  have HI := Lib.hid (fun k hk w => run_index_words 64 64 Tryd.underlying64 ws HWS.out k hk w)
  have HWV := Lib.hid (show (wordsV ws).length = 64 by rw [wordsV_len, HWS.out])
  clear r2 r3 hg
  go_wp2_with (refine wpList_load_row _ rfl _ _ rfl (G + 1) 64 (wordsV ws) _ rfl R2.out Tryd.underlying64 rfl (by rw [HWV.out]; kernel_rfl) ?_)
  go_loopw [5, 6, 7, 8, 9, 10, 11, 12, 34] (fun a b c d e f g h i V => ∃ (k : Nat) (R : R8), k ≤ 64 ∧ i = .int .i64 k ∧ R = rnds k S ws ∧ a = .int .u32 (R.a.toNat : Int) ∧ b = .int .u32 (R.b.toNat : Int) ∧ c = .int .u32 (R.c.toNat : Int) ∧ d = .int .u32 (R.d.toNat : Int) ∧ e = .int .u32 (R.e.toNat : Int) ∧ f = .int .u32 (R.f.toNat : Int) ∧ g = .int .u32 (R.g.toNat : Int) ∧ h = .int .u32 (R.h.toNat : Int) ∧ W1.grownBy V none) (fun _ _ _ _ _ _ _ _ i _ => 64 - (intOf i).toNat)
  case atStart => exact ⟨0, S, Nat.zero_le _, rfl, rfl, by rw [HS0.out], by rw [HS0.out], by rw [HS0.out], by rw [HS0.out], by rw [HS0.out], by rw [HS0.out], by rw [HS0.out], by rw [HS0.out], grown_refl _ _⟩
  case round =>
    obtain ⟨k, R, hk, rfl, hR, rfl, rfl, rfl, rfl, rfl, rfl, rfl, rfl, hV⟩ := hrel
    have HR := Lib.hid hR
    have HV := Lib.hid hV
    clear hR hV HS0
    obtain ⟨a, b, c, d, e, f, g, h⟩ := R
    by_cases hlt : k < 64
    · have hidx := HI.out k hlt
      have hT := ((HT.out.grown HGR.out).grown HV.out) k hlt
      have hN : rnds (k + 1) S ws = rnd ⟨a, b, c, d, e, f, g, h⟩ (kAt k) (ws.getD k 0) := by rw [HR.out]; rfl
      have HN := Lib.hid hN
      clear hN
      generalize kAt k = kk at *
      generalize ws.getD k 0 = wk at *
      have HTT := Lib.hid (tt_bits e f g h kk wk a b c d)
      have HUU := Lib.hid (uu_bits a b c d e f g h)
      go_wp2
      go_quiet ((go_at_call 45; first | exact Calls.quiet_of_same (down6 e _) | exact Calls.quiet_of_same (down11 e _) | exact Calls.quiet_of_same (down25 e _)))
      rw [HTT.out]
      generalize hTe : tt ⟨a, b, c, d, e, f, g, h⟩ kk wk = T at *
      have HTe := Lib.hid hTe
      clear hTe
      have HA1 := Lib.hid (add_bits d T)
      have HA2 := Lib.hid (add_bits T (uu ⟨a, b, c, d, e, f, g, h⟩))
      go_wp2_with fail
      refine (down2 a _).mono ?_
      rintro _ w1 ⟨rfl, rfl⟩
      go_wp2_with fail
      refine (down13 a _).mono ?_
      rintro _ w1 ⟨rfl, rfl⟩
      go_wp2_with fail
      refine (down22 a _).mono ?_
      rintro _ w1 ⟨rfl, rfl⟩
      go_wp2
      rw [HUU.out, HA1.out]
      have e0 := HN.out
      unfold rnd at e0
      rw [HTe.out] at e0
      go_roundw
      case rel =>
        refine ⟨k + 1, _, by omega, by go_num, e0.symm, ?_, rfl, rfl, rfl, rfl, rfl, rfl, rfl, grown_drewN HV.out nq⟩
        rw [HA2.out]
      case measure => simp [intOf]; omega
    · have e64 : (⟨a, b, c, d, e, f, g, h⟩ : R8) = rnds 64 S ws := by rw [HR.out, show k = 64 by omega]
      have HE := Lib.hid e64
      have R3' := Lib.hid (R3.out.grown0 HV.out)
      clear e64
      go_wp2_with (refine wpList_store_row _ rfl rfl _ _ _ rfl (G + 1 + 1) 44 _ (wordsV (R8.l ⟨a, b, c, d, e, f, g, h⟩)) rfl rfl R3'.out rfl (wordsV_one _) (by kernel_rfl) ?_; intro w2 hr2 hg2)
      rw [HE.out] at hr2
      refine bodyPost_ret (v := .agg (wordsV (rnds 64 S ws).l).toArray) ?_ rfl ⟨rfl, grown_own (HGR.out.trans HV.out) hg2 (by have := HG.out; omega)⟩
      exact results_row Tryd.results41 (G + 1 + 1) 44 _ _ rfl hr2 Tryd.underlying44 rfl (by kernel_rfl)
end Go.Proofs.YtmhcfbfdbminnaaDoor
