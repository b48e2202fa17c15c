/-
  digest.Start and digest.words over this program.
-/
import Derived.Test.YtmhcfbfdbminnaaDoorDigDown
import Derived.Test.YtmhcfbfdbminnaaDoorRow
import Derived.BigRegion
namespace Go.Proofs.YtmhcfbfdbminnaaDoor
open Go.RowKit

def wordV (x : W32) : Value := .int .u32 (x.toNat : Int)
def wordsV (l : List W32) : List Value := l.map wordV
theorem wordsV_len (l : List W32) : (wordsV l).length = l.length := by simp [wordsV]
theorem wordsV_one (l : List W32) : ∀ x ∈ wordsV l, x.oneCell' = true := by
  intro x hx
  obtain ⟨c, _, rfl⟩ := List.mem_map.1 hx
  rfl
/-- A call that answers this value and turns nothing old. -/
def Val (v : Value) (w : World) (e : Ending) (w' : World) : Prop := e = .returned v ∧ w.grownBy w' none

set_option maxHeartbeats 1000000 in
theorem start_any (w : World) : Calls Tryd.prog 23 #[] w (Val (.agg (wordsV start).toArray) w) := by
  go_enter Tryd.func23, Tryd.ntmps23
  go_wp2
  refine bodyPost_ret (v := .agg (wordsV start).toArray) ?_ rfl ⟨rfl, grown_alloc (grown_refl _ _) _⟩
  simp [results, Tryd.results23, go_sem, wordsV, wordV, start, startN]

def noughts (n : Nat) : List Value := List.replicate n (.int .u32 0)
/-- Words done so far, noughts behind them. -/
def soFar (l : List W32) : List Value := wordsV l ++ noughts (64 - l.length)
theorem soFar_nil : soFar [] = noughts 64 := rfl
theorem soFar_more (l : List W32) (x : W32) (h : l.length < 64) : (soFar l).set l.length (wordV x) = soFar (l ++ [x]) := by
  unfold soFar
  rw [List.set_append_right _ _ (by rw [wordsV_len]; exact Nat.le_refl _), wordsV_len, Nat.sub_self]
  obtain ⟨m, hm⟩ : ∃ m, 64 - l.length = m + 1 := ⟨63 - l.length, by omega⟩
  have h2 : 64 - (l ++ [x]).length = m := by simp; omega
  rw [hm, h2]
  simp [wordsV, noughts, List.replicate_succ]
theorem soFar_at (l : List W32) (j : Nat) (h : j < l.length) : (soFar l)[j]? = some (wordV (l.getD j 0)) := by
  unfold soFar
  rw [List.getElem?_append_left (by rw [wordsV_len]; exact h)]
  simp [wordsV, List.getElem?_eq_getElem h]
theorem soFar_rest (l : List W32) (j : Nat) (h : l.length ≤ j) (h2 : j < 64) : (soFar l)[j]? = some (.int .u32 0) := by
  unfold soFar
  rw [List.getElem?_append_right (by rw [wordsV_len]; exact h), wordsV_len]
  simp only [noughts, List.getElem?_replicate]
  rw [if_pos (by omega)]
theorem soFar_len (l : List W32) (h : l.length ≤ 64) : (soFar l).length = 64 := by simp [soFar, wordsV_len, noughts]; omega

theorem or4 (b : List UInt8) (k : Nat) : bits .or .u32 (bits .or .u32 (bits .or .u32 (((b.getD (4 * k) 0).toNat : Int) * 16777216) (((b.getD (4 * k + 1) 0).toNat : Int) * 65536)) (((b.getD (4 * k + 2) 0).toNat : Int) * 256)) ((b.getD (4 * k + 3) 0).toNat : Int) = ((be4 b k).toNat : Int) := by
  have b0 := UInt8.toNat_lt (b.getD (4 * k) 0)
  have b1 := UInt8.toNat_lt (b.getD (4 * k + 1) 0)
  have b2 := UInt8.toNat_lt (b.getD (4 * k + 2) 0)
  have b3 := UInt8.toNat_lt (b.getD (4 * k + 3) 0)
  unfold be4 be4N
  generalize (b.getD (4 * k) 0).toNat = y0 at *
  generalize (b.getD (4 * k + 1) 0).toNat = y1 at *
  generalize (b.getD (4 * k + 2) 0).toNat = y2 at *
  generalize (b.getD (4 * k + 3) 0).toNat = y3 at *
  have e0 : (y0 : Int) * 16777216 = ((y0 * 16777216 : Nat) : Int) := by omega
  have e1 : (y1 : Int) * 65536 = ((y1 * 65536 : Nat) : Int) := by omega
  have e2 : (y2 : Int) * 256 = ((y2 * 256 : Nat) : Int) := by omega
  have o1 : y0 * 16777216 ||| y1 * 65536 = y0 * 16777216 + y1 * 65536 := by
    have := Nat.two_pow_add_eq_or_of_lt (i := 24) (b := y1 * 65536) (by omega) y0
    rw [show 2 ^ 24 * y0 = y0 * 16777216 by omega] at this
    exact this.symm
  have o2 : (y0 * 16777216 + y1 * 65536) ||| y2 * 256 = y0 * 16777216 + y1 * 65536 + y2 * 256 := by
    have := Nat.two_pow_add_eq_or_of_lt (i := 16) (b := y2 * 256) (by omega) (y0 * 256 + y1)
    rw [show 2 ^ 16 * (y0 * 256 + y1) = y0 * 16777216 + y1 * 65536 by omega] at this
    exact this.symm
  have o3 : (y0 * 16777216 + y1 * 65536 + y2 * 256) ||| y3 = y0 * 16777216 + y1 * 65536 + y2 * 256 + y3 := by
    have := Nat.two_pow_add_eq_or_of_lt (i := 8) (b := y3) (by omega) (y0 * 65536 + y1 * 256 + y2)
    rw [show 2 ^ 8 * (y0 * 65536 + y1 * 256 + y2) = y0 * 16777216 + y1 * 65536 + y2 * 256 by omega] at this
    exact this.symm
  rw [e0, e1, e2, u32_or_nat _ _ (by omega) (by omega), o1, u32_or_nat _ _ (by omega) (by omega), o2, u32_or_nat _ _ (by omega) (by omega), o3, BitVec.toNat_ofNat]
  omega

theorem xor32 (a b : BitVec 32) : bits .xor .u32 (a.toNat : Int) (b.toNat : Int) = ((a ^^^ b).toNat : Int) := by
  rw [u32_xor_nat _ _ a.isLt b.isLt, BitVec.toNat_xor]
theorem shr32 (x : W32) (n p : Nat) (h : 2 ^ n = p) : (x.toNat : Int) / (p : Int) = ((x >>> n).toNat : Int) := by
  rw [BitVec.toNat_ushiftRight, Nat.shiftRight_eq_div_pow, h]
  simp only [Int.natCast_ediv]
theorem s0_bits (x : W32) : bits .xor .u32 (bits .xor .u32 ((rr 7 x).toNat : Int) ((rr 18 x).toNat : Int)) ((x.toNat : Int) / 8) = ((s0 x).toNat : Int) := by
  have h : (x.toNat : Int) / 8 = _ := shr32 x 3 8 (by decide)
  rw [xor32, h, xor32]
  rfl
theorem s1_bits (x : W32) : bits .xor .u32 (bits .xor .u32 ((rr 17 x).toNat : Int) ((rr 19 x).toNat : Int)) ((x.toNat : Int) / 1024) = ((s1 x).toNat : Int) := by
  have h : (x.toNat : Int) / 1024 = _ := shr32 x 10 1024 (by decide)
  rw [xor32, h, xor32]
  rfl

theorem sum4 (a b c d : W32) : ((a.toNat : Int) + (b.toNat : Int) + (c.toNat : Int) + (d.toNat : Int)) % 4294967296 = ((a + b + c + d).toNat : Int) := by
  rw [BitVec.toNat_add, BitVec.toNat_add, BitVec.toNat_add]
  omega

set_option maxHeartbeats 4000000 in
theorem words_any (b : List UInt8) (hb : b.length = 64) (w : World) :
    Calls Tryd.prog 42 #[.agg (bytesV b).toArray] w (Val (.agg (wordsV (sched b)).toArray) w) := by
  have HB := Lib.hid hb
  clear hb
  go_enter Tryd.func42, Tryd.ntmps42
  go_wp2
  generalize hG : w.heap.size = G
  have HG := Lib.hid hG
  clear hG
  go_loopw [10] (fun i W => ∃ k : Nat, k ≤ 16 ∧ i = .int .i64 k ∧ Row W G 34 (bytesV b) ∧ Row W (G + 1) 64 (noughts 64) ∧ Row W (G + 1 + 1) 64 (soFar (firsts b k)) ∧ w.grownBy W none) (fun i _ => 16 - (intOf i).toNat)
  case atStart =>
    have hg := HG.out
    exact ⟨0, Nat.zero_le _, rfl, ((Row.newAt w _ (bytesV b) hg).alloc _).alloc _, (Row.newAt _ _ (noughts 64) (by simp [hg])).alloc _, Row.newAt _ _ (noughts 64) (by simp [hg]), grown_alloc (grown_alloc (grown_alloc (grown_refl _ _) _) _) _⟩
  case round =>
    obtain ⟨k, hk, rfl, r1, r2, r3, hgr⟩ := hrel
    by_cases hlt : k < 16
    · have hb := HB.out
      have at_ : ∀ j, j < 64 → wr.cell? ⟨G, j, none⟩ = some (.int .u8 ((b.getD j 0).toNat : Int)) := fun j hj =>
        r1.cell (by simp [bytesV, byteV, List.getElem?_eq_getElem (show j < b.length by omega)])
      have c0 := at_ (4 * k) (by omega)
      have c1 := at_ (4 * k + 1) (by omega)
      have c2 := at_ (4 * k + 2) (by omega)
      have c3 := at_ (4 * k + 3) (by omega)
      have f3 := r3.frozen k
      have c4 := r3.cell (soFar_rest (firsts b k) k (by rw [firsts_len]; exact Nat.le_refl _) (by omega))
      have R1 := Lib.hid r1
      have R2 := Lib.hid r2
      have R3 := Lib.hid r3
      have HGR := Lib.hid hgr
      have HO := Lib.hid (or4 b k)
      have b0 := UInt8.toNat_lt (b.getD (4 * k) 0)
      have b1 := UInt8.toNat_lt (b.getD (4 * k + 1) 0)
      have b2 := UInt8.toNat_lt (b.getD (4 * k + 2) 0)
      have b3 := UInt8.toNat_lt (b.getD (4 * k + 3) 0)
      generalize (b.getD (4 * k) 0).toNat = y0 at *
      generalize (b.getD (4 * k + 1) 0).toNat = y1 at *
      generalize (b.getD (4 * k + 2) 0).toNat = y2 at *
      generalize (b.getD (4 * k + 3) 0).toNat = y3 at *
      clear r1 r2 r3 hgr hb at_
      go_wp2
      go_region
      go_wp2
      rw [HO.out]
      go_roundw
      case rel =>
        refine ⟨k + 1, by omega, by go_num, R1.out.other (by omega) _, R2.out.other (by omega) _, ?_, grown_drew (grown_own HGR.out (grown_set wr (G + 1 + 1) k _) (by have := HG.out; omega))⟩
        have := R3.out.set k (wordV (be4 b k))
        have hs := soFar_more (firsts b k) (be4 b k) (by rw [firsts_len]; omega)
        rw [firsts_len, ← firsts_succ] at hs
        rw [← hs]
        exact this
      case measure => simp [intOf]; omega
    · have hl0 := firsts_len b 16
      have hk16 : firsts b k = firsts b 16 := by rw [show k = 16 by omega]
      rw [hk16] at r3
      clear hk16
      generalize hF : firsts b 16 = F at *
      have HF := Lib.hid hF
      have HR1 := Lib.hid r1
      have HR2 := Lib.hid r2
      have HR3 := Lib.hid r3
      have HGR := Lib.hid hgr
      have HL0 := Lib.hid hl0
      clear hF r1 r2 r3 hgr hl0
      go_wp2
      go_loopw [5] (fun i W => ∃ m : Nat, m ≤ 48 ∧ i = .int .i64 ((m : Int) + 16) ∧ Row W (G + 1) 64 (noughts 64) ∧ Row W (G + 1 + 1) 64 (soFar (more m F)) ∧ w.grownBy W none) (fun i _ => 64 - (intOf i).toNat)
      case atStart => exact ⟨0, Nat.zero_le _, rfl, HR2.out, HR3.out, HGR.out⟩
      case round =>
        clear HR1 HR2 HR3 HGR
        obtain ⟨m, hm, rfl, r2, r3, hgr⟩ := hrel
        by_cases hlt : m < 48
        · have hml := more_len m F
          rw [HL0.out] at hml
          have at_ : ∀ j, j < 16 + m → wr.cell? ⟨G + 1 + 1, j, none⟩ = some (.int .u32 (((more m F).getD j 0).toNat : Int)) := fun j hj => r3.cell (soFar_at _ j (by omega))
          have c1 := at_ (m + 1) (by omega)
          have c2 := at_ (m + 14) (by omega)
          have c3 := at_ m (by omega)
          have c4 := at_ (m + 9) (by omega)
          have c5 := r3.cell (soFar_rest (more m F) (m + 16) (by omega) (by omega))
          have f5 := r3.frozen (m + 16)
          have HN := Lib.hid (show nextW (more m F) = (more m F).getD m 0 + s0 ((more m F).getD (m + 1) 0) + (more m F).getD (m + 9) 0 + s1 ((more m F).getD (m + 14) 0) by
            unfold nextW
            rw [hml, show 16 + m - 16 = m by omega, show 16 + m - 15 = m + 1 by omega, show 16 + m - 7 = m + 9 by omega, show 16 + m - 2 = m + 14 by omega])
          have HML := Lib.hid hml
          have HS0 := Lib.hid (s0_bits ((more m F).getD (m + 1) 0))
          have HS1 := Lib.hid (s1_bits ((more m F).getD (m + 14) 0))
          have R2 := Lib.hid r2
          have R3 := Lib.hid r3
          have HGR := Lib.hid hgr
          generalize (more m F).getD m 0 = x16 at *
          generalize (more m F).getD (m + 1) 0 = x15 at *
          generalize (more m F).getD (m + 9) 0 = x7 at *
          generalize (more m F).getD (m + 14) 0 = x2 at *
          clear r2 r3 hgr at_ hml
          go_wp2
          go_region
          go_wp2_with fail
          refine (down7 x15 _).mono ?_
          rintro e w1 ⟨rfl, rfl⟩
          go_wp2_with fail
          refine (down18 x15 _).mono ?_
          rintro e w1 ⟨rfl, rfl⟩
          go_wp2_with fail
          refine (down17 x2 _).mono ?_
          rintro e w1 ⟨rfl, rfl⟩
          go_wp2_with fail
          refine (down19 x2 _).mono ?_
          rintro e w1 ⟨rfl, rfl⟩
          go_wp2
          rw [HS0.out, HS1.out]
          generalize s0 x15 = y0 at *
          generalize s1 x2 = y1 at *
          clear HS0 HS1
          have hx16 := x16.isLt
          have hx7 := x7.isLt
          have hy0 := y0.isLt
          have hy1 := y1.isLt
          have HSUM := Lib.hid (sum4 x16 y0 x7 y1)
          rw [← HN.out] at HSUM
          go_region
          go_wp2
          rw [HSUM.out]
          go_roundw
          case rel =>
            refine ⟨m + 1, by omega, by go_num, R2.out.other (by omega) _, ?_, grown_drew (grown_drew (grown_own HGR.out (grown_set wr (G + 1 + 1) (m + 16) _) (by have := HG.out; omega)))⟩
            have := R3.out.set (m + 16) (wordV (nextW (more m F)))
            have hs := soFar_more (more m F) (nextW (more m F)) (by have := HML.out; omega)
            rw [HML.out, show 16 + m = m + 16 by omega] at hs
            rw [show more (m + 1) F = more m F ++ [nextW (more m F)] from rfl, ← hs]
            exact this
          case measure => simp [intOf]; omega
        · obtain rfl : m = 48 := by omega
          have R2 := Lib.hid r2
          have R3 := Lib.hid r3
          have HGR := Lib.hid hgr
          clear r2 r3 hgr
          have hml := more_len 48 F
          rw [HL0.out] at hml
          have hfull : soFar (more 48 F) = wordsV (sched b) := by
            unfold soFar sched
            rw [hml, HF.out]
            simp [noughts]
          rw [hfull] at R3
          have hws : (wordsV (sched b)).length = 64 := by rw [wordsV_len, sched_len]
          have HWS := Lib.hid hws
          clear hfull hml hws
          have HN1 := Lib.hid (fun x hx => wordsV_one (sched b) x hx)
          generalize wordsV (sched b) = xs at *
          go_wp2_with (first
            | refine wpList_load_row _ rfl _ _ rfl (G + 1 + 1) 64 xs _ rfl R3.out Tryd.underlying64 rfl (by rw [HWS.out]; kernel_rfl) ?_
            | (refine wpList_store_row _ rfl rfl _ _ _ rfl (G + 1) 64 (noughts 64) xs rfl rfl R2.out (by rw [HWS.out]; rfl) HN1.out (by rw [HWS.out]; kernel_rfl) ?_; intro w2 hr2 hg2))
          refine bodyPost_ret (v := .agg xs.toArray) ?_ rfl ⟨rfl, grown_own HGR.out hg2 (by have := HG.out; omega)⟩
          exact results_row Tryd.results42 (G + 1) 64 xs _ rfl hr2 Tryd.underlying64 rfl (by rw [HWS.out]; kernel_rfl)
end Go.Proofs.YtmhcfbfdbminnaaDoor
