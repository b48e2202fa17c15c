/-
  poly.bytesOf and poly.lowSum over this program: a number's bytes; a sum's lowest ones.
-/
import Derived.Test.YtjcbdplbekecjaaPolProd
namespace Go.Proofs.Ytjcbdplbekecjaa
open Go.RowKit

theorem leB_put (n v k c : Nat) (hk : k < n) (h : v / 256 ^ k % 256 + c < 256) : (leB n v).set k (UInt8.ofNat (v / 256 ^ k % 256 + c)) = leB n (v + 256 ^ k * c) := by
  have := digs_put 256 n v k c (by decide) hk h
  unfold leB
  rw [← this, List.map_set]
theorem put_step (V n at_ bit k : Nat) (hV : V < 256 ^ at_ * 2 ^ bit) (hb : bit = 0 ∨ bit = 2 ∨ bit = 4 ∨ bit = 6) (hk : k < 4) :
    (V + 256 ^ at_ * (n * 2 ^ bit % 256 ^ k)) / 256 ^ (at_ + k) % 256 + n * 2 ^ bit / 256 ^ k % 256 < 256 ∧
    (V + 256 ^ at_ * (n * 2 ^ bit % 256 ^ k)) / 256 ^ (at_ + k) % 256 ||| n * 2 ^ bit / 256 ^ k % 256 = (V + 256 ^ at_ * (n * 2 ^ bit % 256 ^ k)) / 256 ^ (at_ + k) % 256 + n * 2 ^ bit / 256 ^ k % 256 ∧
    V + 256 ^ at_ * (n * 2 ^ bit % 256 ^ k) + 256 ^ (at_ + k) * (n * 2 ^ bit / 256 ^ k % 256) = V + 256 ^ at_ * (n * 2 ^ bit % 256 ^ (k + 1)) := by
  have hp : 0 < 256 ^ at_ := Nat.pow_pos (by decide)
  have he : V / 256 ^ at_ < 2 ^ bit := Nat.div_lt_of_lt_mul hV
  have hd : (V + 256 ^ at_ * (n * 2 ^ bit % 256 ^ k)) / 256 ^ (at_ + k) = (V / 256 ^ at_ + n * 2 ^ bit % 256 ^ k) / 256 ^ k := by
    rw [Nat.pow_add, ← Nat.div_div_eq_div_mul, Nat.add_mul_div_left _ _ hp]
  have h3 : V + 256 ^ at_ * (n * 2 ^ bit % 256 ^ k) + 256 ^ (at_ + k) * (n * 2 ^ bit / 256 ^ k % 256) = V + 256 ^ at_ * (n * 2 ^ bit % 256 ^ (k + 1)) := by
    rw [Nat.mod_pow_succ, Nat.mul_add, Nat.pow_add, Nat.mul_assoc, Nat.add_assoc]
  rw [hd]
  generalize V / 256 ^ at_ = e at *
  have key : (e + n * 2 ^ bit % 256 ^ k) / 256 ^ k % 256 < 2 ^ bit ∧ (e + n * 2 ^ bit % 256 ^ k) / 256 ^ k % 256 + n * 2 ^ bit / 256 ^ k % 256 < 256 ∧ (k = 0 ∨ (e + n * 2 ^ bit % 256 ^ k) / 256 ^ k % 256 = 0) ∧ (k = 0 → n * 2 ^ bit / 256 ^ k % 256 = 2 ^ bit * (n * 2 ^ bit % 256 / 2 ^ bit)) := by
    rcases hb with rfl | rfl | rfl | rfl <;> (rcases k with _ | _ | _ | _ | k <;> first | omega | (simp only [Nat.reducePow, Nat.reduceAdd, Nat.zero_add] at *; omega))
  refine ⟨key.2.1, ?_, h3⟩
  rcases key.2.2.1 with rfl | h0
  · have h1 := key.2.2.2 rfl
    have h2 := key.1
    rw [h1]
    generalize (e + n * 2 ^ bit % 256 ^ 0) / 256 ^ 0 % 256 = d at *
    have := Nat.two_pow_add_eq_or_of_lt h2 (n * 2 ^ bit % 256 / 2 ^ bit)
    rw [Nat.or_comm, ← this, Nat.add_comm]
  · rw [h0]; simp
/-- So far: limbs below i, and k bytes of limb i. -/
def putV (l : List Nat) (i k : Nat) : Nat := valL (l.take i) + 256 ^ (26 * i / 8) * (l.getD i 0 * 2 ^ (26 * i % 8) % 256 ^ k)
theorem putV_next (l : List Nat) (h5 : l.length = 5) (hl : Lt 67108864 l) (i : Nat) (hi : i < 5) : putV l i 4 = valL (l.take (i + 1)) := by
  have h1 := val_take 67108864 l i (by omega)
  have hx : l.getD i 0 < 67108864 := by
    rw [List.getD_eq_getElem?_getD, List.getElem?_eq_getElem (by omega)]
    exact hl _ (List.getElem_mem _)
  unfold putV valL
  rw [h1]
  generalize l.getD i 0 = x at *
  congr 1
  rcases i with _ | _ | _ | _ | _ | i <;> first | omega | (simp only [Nat.reduceMul, Nat.reduceDiv, Nat.reduceMod, Nat.reducePow, Nat.reduceAdd] at *; omega)
theorem putV_zero (l : List Nat) (i : Nat) : putV l i 0 = valL (l.take i) := by
  unfold putV
  rw [Nat.pow_zero, Nat.mod_one, Nat.mul_zero, Nat.add_zero]
theorem putV_step (l : List Nat) (h5 : l.length = 5) (hl : Lt 67108864 l) (i k : Nat) (hi : i < 5) (hk : k < 4) :
    putV l i k / 256 ^ (26 * i / 8 + k) % 256 + l.getD i 0 * 2 ^ (26 * i % 8) / 256 ^ k % 256 < 256 ∧
    putV l i k / 256 ^ (26 * i / 8 + k) % 256 ||| l.getD i 0 * 2 ^ (26 * i % 8) / 256 ^ k % 256 = putV l i k / 256 ^ (26 * i / 8 + k) % 256 + l.getD i 0 * 2 ^ (26 * i % 8) / 256 ^ k % 256 ∧
    putV l i k + 256 ^ (26 * i / 8 + k) * (l.getD i 0 * 2 ^ (26 * i % 8) / 256 ^ k % 256) = putV l i (k + 1) := by
  have hv : valL (l.take i) < 67108864 ^ i := by
    have := val_lt 67108864 (l.take i) (fun x hx => hl x (List.mem_of_mem_take hx))
    rwa [List.length_take, Nat.min_eq_left (by omega)] at this
  have hb : 26 * i % 8 = 0 ∨ 26 * i % 8 = 2 ∨ 26 * i % 8 = 4 ∨ 26 * i % 8 = 6 := by omega
  have hp : 67108864 ^ i = 256 ^ (26 * i / 8) * 2 ^ (26 * i % 8) := by
    rcases i with _ | _ | _ | _ | _ | i
    · decide
    · decide
    · decide
    · decide
    · decide
    · omega
  exact put_step (valL (l.take i)) (l.getD i 0) (26 * i / 8) (26 * i % 8) k (by rw [← hp]; exact hv) hb hk

theorem index_limb' (l : List Nat) (h5 : l.length = 5) (k : Nat) (hk : k < 5) (w : World) : (Instr.index 69 (.agg (limbsV l).toArray) (.int .i64 (k : Int))).run Try.prog w = .ok (.int .u64 ((l.getD k 0 : Nat) : Int)) w := index_limb l h5 k hk w
theorem or8 (d c : Nat) (hd : d < 256) (hc : c < 256) (h : d ||| c = d + c) : bits .or .u8 (d : Int) (c : Int) = ((d + c : Nat) : Int) := by
  rw [u8_or_nat d c hd hc, h]

set_option maxHeartbeats 8000000 in
theorem bytesOf_any (l : List Nat) (h5 : l.length = 5) (hl : Lt 67108864 l) (w : World) :
    Calls Try.prog 45 #[.agg (limbsV l).toArray] w (Val (.agg (bytesV (leB 17 (valL l))).toArray) w) := by
  generalize hG : w.heap.size = G
  have HG := Lib.hid hG
  have H5 := Lib.hid h5
  have HLT := Lib.hid hl
  have HLV := Lib.hid (show (limbsV l).length = 5 by rw [limbsV_len, h5])
  obtain ⟨W0, hW0⟩ : ∃ W, ((w.alloc (.cells (limbsV l).toArray 69)).alloc (.cells (noughts8 17).toArray 71)).alloc (.cells (noughts8 17).toArray 71) = W := ⟨_, rfl⟩
  have R0 := Lib.hid (show Row W0 G 69 (limbsV l) by rw [← hW0]; exact ((Row.newAt w _ (limbsV l) hG).alloc _).alloc _)
  have R1 := Lib.hid (show Row W0 (G + 1) 71 (noughts8 17) by rw [← hW0]; exact (Row.newAt _ _ (noughts8 17) (by simp [hG])).alloc _)
  have R2 := Lib.hid (show Row W0 (G + 1 + 1) 71 (bytesV (leB 17 (valL (l.take 0)))) by rw [← hW0, show bytesV (leB 17 (valL (l.take 0))) = noughts8 17 by rw [List.take_zero]; rfl]; exact Row.newAt _ _ (noughts8 17) (by simp [hG]))
  have HGR := Lib.hid (show w.grownBy W0 none by rw [← hW0]; exact grown_alloc (grown_alloc (grown_alloc (grown_refl _ _) _) _) _)
  simp only [noughts8, List.replicate] at hW0
  clear h5 hl
  go_enter Try.func45, Try.ntmps45
  go_wp2_with (refine wpList_load_row _ rfl _ 69 rfl G 69 (limbsV l) _ rfl R0.out Try.underlying69 rfl (by rw [HLV.out]; kernel_rfl) ?_)
  clear hG hW0
  go_loopw [10] (fun i W => ∃ k : Nat, k ≤ 5 ∧ i = .int .i64 k ∧ Row W (G + 1) 71 (noughts8 17) ∧ Row W (G + 1 + 1) 71 (bytesV (leB 17 (valL (l.take k)))) ∧ w.grownBy W none) (fun i _ => 5 - (intOf i).toNat)
  case atStart => exact ⟨0, Nat.zero_le _, rfl, R1.out, R2.out, HGR.out⟩
  case round =>
    clear R0 R1 R2 HGR
    obtain ⟨i, hi, rfl, r1, r2, hgr⟩ := hrel
    have R1 := Lib.hid r1
    have R2 := Lib.hid r2
    have HGR := Lib.hid hgr
    clear r1 r2 hgr
    by_cases hlt : i < 5
    · have hidx := index_limb l H5.out i hlt
      have HP := Lib.hid (fun w => limbPlace_any i hlt w)
      have HST := Lib.hid (fun k hk => putV_step l H5.out HLT.out i k hlt hk)
      have HNX := Lib.hid (putV_next l H5.out HLT.out i hlt)
      rw [← putV_zero l i] at R2
      have hat : 26 * i / 8 ≤ 13 := by omega
      have hbit : 26 * i % 8 ≤ 7 := by omega
      have hx : l.getD i 0 < 67108864 := by
        rw [List.getD_eq_getElem?_getD, List.getElem?_eq_getElem (by have := H5.out; omega)]
        exact HLT.out _ (List.getElem_mem _)
      generalize 26 * i / 8 = at_ at *
      generalize 26 * i % 8 = bit at *
      generalize l.getD i 0 = x at *
      have HII := Lib.hid (And.intro hi hlt)
      have hdec : decide ((i : Int) < 5) = true := by simp; omega
      clear hi
      go_wp2_with fail
      refine (HP.out _).mono ?_
      rintro e w1 ⟨rfl, hg1⟩
      have R1a := Lib.hid (R1.out.grown0 hg1)
      have R2a := Lib.hid (R2.out.grown0 hg1)
      have HGa := Lib.hid (HGR.out.trans hg1)
      clear R1 R2 HGR hg1 HP hidx
      go_wp2
      go_loopw [19] (fun q W => ∃ k : Nat, k ≤ 4 ∧ q = .int .i64 k ∧ Row W (G + 1) 71 (noughts8 17) ∧ Row W (G + 1 + 1) 71 (bytesV (leB 17 (putV l i k))) ∧ w.grownBy W none) (fun q _ => 4 - (intOf q).toNat)
      case atStart => exact ⟨0, Nat.zero_le _, rfl, R1a.out, R2a.out, HGa.out⟩
      case round =>
        clear R1a R2a HGa
        obtain ⟨k, hk, rfl, r1, r2, hgr⟩ := hrel
        have R1 := Lib.hid r1
        have R2 := Lib.hid r2
        have HGR := Lib.hid hgr
        clear r1 hgr
        by_cases hlk : k < 4
        · obtain ⟨s1, s2, s3⟩ := HST.out k hlk
          have hc := r2.cell (bytesV_at (leB 17 (putV l i k)) (at_ + k) (by rw [leB_len]; omega))
          rw [leB_at 17 _ _ (by omega)] at hc
          have hf := r2.frozen (at_ + k)
          have hpt := leB_put 17 (putV l i k) (at_ + k) _ (by omega) s1
          rw [s3] at hpt
          have hd8 : putV l i k / 256 ^ (at_ + k) % 256 < 256 := Nat.mod_lt _ (by decide)
          have hc8 : x * 2 ^ bit / 256 ^ k % 256 < 256 := Nat.mod_lt _ (by decide)
          have HPT := Lib.hid hpt
          have hpow : (256 : Nat) ^ k = 2 ^ (8 * k) := by rw [Nat.pow_mul]
          have HOR := Lib.hid (show bits .or .u8 ((putV l i k : Int) / 256 ^ (at_ + k) % 256) ((x : Int) * 2 ^ bit / 2 ^ (8 * k) % 256) = ((UInt8.ofNat (putV l i k / 256 ^ (at_ + k) % 256 + x * 2 ^ bit / 256 ^ k % 256)).toNat : Int) by
            have e1 : ((putV l i k / 256 ^ (at_ + k) % 256 : Nat) : Int) = (putV l i k : Int) / 256 ^ (at_ + k) % 256 := by simp
            have e2 : ((x * 2 ^ bit / 256 ^ k % 256 : Nat) : Int) = (x : Int) * 2 ^ bit / 2 ^ (8 * k) % 256 := by rw [hpow]; simp
            rw [← e1, ← e2, or8 _ _ hd8 hc8 s2, UInt8.toNat_ofNat', Nat.mod_eq_of_lt s1])
          clear hpow
          have hX : x * 2 ^ bit < 18446744073709551616 := by
            have : 2 ^ bit ≤ 2 ^ 7 := Nat.pow_le_pow_right (by decide) hbit
            have := Nat.mul_le_mul (Nat.le_of_lt hx) this
            omega
          have hsh : IntKind.u64.wrap ((x : Int) * 2 ^ bit) = ((x * 2 ^ bit : Nat) : Int) := by
            have e : ((x * 2 ^ bit : Nat) : Int) = (x : Int) * 2 ^ bit := by simp
            rw [← e, IntKind.wrap_u64]
            omega
          clear s1 s2 s3 hpt r2
          go_wp2
          go_region
          go_wp2
          rw [HOR.out]
          go_roundw
          case rel =>
            refine ⟨k + 1, by omega, by go_num, R1.out.other (by omega) _, ?_, grown_drew (grown_own HGR.out (grown_set wr (G + 1 + 1) (at_ + k) _) (by have := HG.out; omega))⟩
            rw [← HPT.out, ← bytesV_set]
            exact R2.out.set (at_ + k) _
          case measure => simp [intOf]; omega
        · have hk4 : k = 4 := by omega
          rw [hk4, HNX.out] at R2
          clear hk4 r2
          go_wp2
          go_roundw
          case rel => exact ⟨i + 1, by have := HII.out.2; omega, by go_num, R1.out, R2.out, HGR.out⟩
          case measure => have := HII.out.2; simp [intOf]; omega
    · have hi5 : i = 5 := by omega
      subst hi5
      rw [List.take_of_length_le (by rw [H5.out]; exact Nat.le_refl _)] at R2
      have HL := Lib.hid (show (bytesV (leB 17 (valL l))).length = 17 by rw [bytesV_len, leB_len])
      have HO := Lib.hid (fun x hx => bytesV_one (leB 17 (valL l)) x hx)
      clear hi hlt
      generalize bytesV (leB 17 (valL l)) = xs at *
      go_wp2_with (first
        | refine wpList_load_row _ rfl _ 71 rfl (G + 1 + 1) 71 xs _ rfl R2.out Try.underlying71 rfl (by rw [HL.out]; kernel_rfl) ?_
        | (refine wpList_store_row _ rfl rfl _ _ 71 rfl (G + 1) 71 (noughts8 17) xs rfl rfl R1.out (by rw [HL.out]; rfl) HO.out (by rw [HL.out]; kernel_rfl) ?_; intro w2 hr2 hg2))
      refine bodyPost_ret (v := .agg xs.toArray) ?_ rfl ⟨rfl, grown_own HGR.out hg2 (by have := HG.out; omega)⟩
      exact results_row Try.results45 (G + 1) 71 xs _ rfl hr2 Try.underlying71 rfl (by rw [HL.out]; kernel_rfl)

theorem byte_at (l : List UInt8) (k : Nat) (h : k < l.length) : (l.getD k 0).toNat = le l / 256 ^ k % 256 := by
  have := leB_at l.length (le l) k h
  rwa [leB_le] at this
/-- The carry of a sum of two numbers, ahead of place k. -/
def car (x y k : Nat) : Nat := (x % 256 ^ k + y % 256 ^ k) / 256 ^ k
theorem car_zero (x y : Nat) : car x y 0 = 0 := by unfold car; simp [Nat.mod_one]
theorem car_le (x y k : Nat) : car x y k ≤ 1 := by
  unfold car
  have hp : 0 < 256 ^ k := Nat.pow_pos (by decide)
  have h1 := Nat.mod_lt x hp
  have h2 := Nat.mod_lt y hp
  have : (x % 256 ^ k + y % 256 ^ k) / 256 ^ k < 2 := Nat.div_lt_of_lt_mul (by omega)
  omega
theorem car_step (x y k : Nat) : (car x y k + x / 256 ^ k % 256 + y / 256 ^ k % 256) % 256 = (x + y) / 256 ^ k % 256 ∧ (car x y k + x / 256 ^ k % 256 + y / 256 ^ k % 256) / 256 = car x y (k + 1) := by
  have hp : 0 < 256 ^ k := Nat.pow_pos (by decide)
  constructor
  · have h1 : (x + y) / 256 ^ k = x / 256 ^ k + y / 256 ^ k + car x y k := by
      have e1 := Nat.div_add_mod x (256 ^ k)
      have e2 := Nat.div_add_mod y (256 ^ k)
      have e3 : x + y = (x % 256 ^ k + y % 256 ^ k) + 256 ^ k * (x / 256 ^ k + y / 256 ^ k) := by rw [Nat.mul_add]; omega
      unfold car
      conv => lhs; rw [e3, Nat.add_mul_div_left _ _ hp, Nat.add_comm]
    rw [h1]
    generalize x / 256 ^ k = a
    generalize y / 256 ^ k = b
    generalize car x y k = c
    omega
  · unfold car
    rw [Nat.mod_pow_succ, Nat.mod_pow_succ, Nat.pow_succ, ← Nat.div_div_eq_div_mul]
    have e : x % 256 ^ k + 256 ^ k * (x / 256 ^ k % 256) + (y % 256 ^ k + 256 ^ k * (y / 256 ^ k % 256)) = (x % 256 ^ k + y % 256 ^ k) + 256 ^ k * (x / 256 ^ k % 256 + y / 256 ^ k % 256) := by rw [Nat.mul_add]; omega
    rw [e, Nat.add_mul_div_left _ _ hp, Nat.add_assoc]
/-- So many bytes are summed. -/
def lowK (v : Nat) (s : List UInt8) (k : Nat) : List UInt8 := leB k v ++ s.drop k
theorem lowK_len (v : Nat) (s : List UInt8) (h : s.length = 16) (k : Nat) (hk : k ≤ 16) : (lowK v s k).length = 16 := by simp [lowK, leB_len, h]; omega
theorem lowK_at (v : Nat) (s : List UInt8) (k : Nat) : (lowK v s k).getD k 0 = s.getD k 0 := by
  unfold lowK
  rw [List.getD_eq_getElem?_getD, List.getElem?_append_right (by rw [leB_len]; exact Nat.le_refl _), leB_len, Nat.sub_self, List.getElem?_drop, Nat.add_zero, ← List.getD_eq_getElem?_getD]
theorem lowK_set (v : Nat) (s : List UInt8) (h : s.length = 16) (k : Nat) (hk : k < 16) : (lowK v s k).set k (UInt8.ofNat (v / 256 ^ k % 256)) = lowK v s (k + 1) := by
  unfold lowK
  rw [List.set_append_right _ _ (by rw [leB_len]; exact Nat.le_refl _), leB_len, Nat.sub_self, List.drop_eq_getElem_cons (by omega), List.set_cons_zero]
  unfold leB
  rw [digs_more]
  simp

set_option maxHeartbeats 4000000 in
theorem lowSum_any (a s : List UInt8) (ha : a.length = 17) (hs : s.length = 16) (w : World) :
    Calls Try.prog 44 #[.agg (bytesV a).toArray, .agg (bytesV s).toArray] w (Val (.agg (bytesV (leB 16 (le a + le s))).toArray) w) := by
  generalize hG : w.heap.size = G
  have HG := Lib.hid hG
  have HA := Lib.hid ha
  have HS := Lib.hid hs
  obtain ⟨W0, hW0⟩ : ∃ W, ((w.alloc (.cells (bytesV a).toArray 71)).alloc (.cells (bytesV s).toArray 37)).alloc (.cells (noughts8 16).toArray 37) = W := ⟨_, rfl⟩
  have R0 := Lib.hid (show Row W0 G 71 (bytesV a) by rw [← hW0]; exact ((Row.newAt w _ (bytesV a) hG).alloc _).alloc _)
  have R1 := Lib.hid (show Row W0 (G + 1) 37 (bytesV s) by rw [← hW0]; exact (Row.newAt _ _ (bytesV s) (by simp [hG])).alloc _)
  have R2 := Lib.hid (show Row W0 (G + 1 + 1) 37 (noughts8 16) by rw [← hW0]; exact Row.newAt _ _ (noughts8 16) (by simp [hG]))
  have HGR := Lib.hid (show w.grownBy W0 none by rw [← hW0]; exact grown_alloc (grown_alloc (grown_alloc (grown_refl _ _) _) _) _)
  simp only [noughts8, List.replicate] at hW0
  clear ha hs
  go_enter Try.func44, Try.ntmps44
  go_wp2
  clear hG hW0
  go_loopw [5, 7] (fun c i W => ∃ k x : Nat, k ≤ 16 ∧ i = .int .i64 k ∧ c = .int .u64 (x : Int) ∧ x = car (le a) (le s) k ∧ Row W G 71 (bytesV a) ∧ Row W (G + 1) 37 (bytesV (lowK (le a + le s) s k)) ∧ Row W (G + 1 + 1) 37 (noughts8 16) ∧ w.grownBy W none) (fun _ i _ => 16 - (intOf i).toNat)
  case atStart => exact ⟨0, 0, Nat.zero_le _, rfl, rfl, (car_zero _ _).symm, R0.out, R1.out, R2.out, HGR.out⟩
  case round =>
    clear R0 R1 R2 HGR
    obtain ⟨k, x, hk, rfl, rfl, hx, r0, r1, r2, hgr⟩ := hrel
    have R0 := Lib.hid r0
    have R1 := Lib.hid r1
    have R2 := Lib.hid r2
    have HGR := Lib.hid hgr
    clear r2 hgr
    by_cases hlt : k < 16
    · have hst := car_step (le a) (le s) k
      have hx1 := car_le (le a) (le s) k
      rw [← hx] at hst hx1
      have c0 := r0.cell (bytesV_at a k (by have := HA.out; omega))
      have c1 := r1.cell (bytesV_at (lowK (le a + le s) s k) k (by rw [lowK_len _ _ HS.out k hk]; exact hlt))
      rw [lowK_at _ _ k, byte_at s k (by have := HS.out; omega)] at c1
      rw [byte_at a k (by have := HA.out; omega)] at c0
      have hset := lowK_set (le a + le s) s HS.out k hlt
      rw [← hst.1] at hset
      have HSET := Lib.hid hset
      have HNX := Lib.hid hst.2
      have f1 := r1.frozen k
      have hy : le a / 256 ^ k % 256 < 256 := Nat.mod_lt _ (by decide)
      have hz : le s / 256 ^ k % 256 < 256 := Nat.mod_lt _ (by decide)
      generalize le a / 256 ^ k % 256 = y at *
      generalize le s / 256 ^ k % 256 = z at *
      have hu : ((UInt8.ofNat ((x + y + z) % 256)).toNat : Int) = ((x : Int) + ((y : Int) + (z : Int))) % 256 := by rw [UInt8.toNat_ofNat']; omega
      have HU := Lib.hid hu
      clear hst hset r0 r1 hx hu
      go_wp2
      go_quiet (fail)
      go_wp2
      rw [← HU.out]
      go_roundw
      case rel =>
        refine ⟨k + 1, (x + y + z) / 256, by omega, by go_num, congrArg (Value.int .u64) (by omega), HNX.out, (R0.out.drewN _).other (by omega) _, ?_, (R2.out.drewN _).other (by omega) _, grown_own (grown_drewN HGR.out _) (grown_set _ (G + 1) k _) (by have := HG.out; omega)⟩
        rw [← HSET.out, ← bytesV_set]
        exact (R1.out.drewN _).set k _
      case measure => simp [intOf]; omega
    · have hk16 : k = 16 := by omega
      subst hk16
      rw [show lowK (le a + le s) s 16 = leB 16 (le a + le s) by unfold lowK; rw [List.drop_of_length_le (by rw [HS.out]; exact Nat.le_refl _), List.append_nil]] at R1
      have HL := Lib.hid (show (bytesV (leB 16 (le a + le s))).length = 16 by rw [bytesV_len, leB_len])
      have HO := Lib.hid (fun x hx => bytesV_one (leB 16 (le a + le s)) x hx)
      clear hk hlt r0 r1 hx
      generalize bytesV (leB 16 (le a + le s)) = xs at *
      go_wp2_with (first
        | refine wpList_load_row _ rfl _ 37 rfl (G + 1) 37 xs _ rfl R1.out Try.underlying37 rfl (by rw [HL.out]; kernel_rfl) ?_
        | (refine wpList_store_row _ rfl rfl _ _ 37 rfl (G + 1 + 1) 37 (noughts8 16) xs rfl rfl R2.out (by rw [HL.out]; rfl) HO.out (by rw [HL.out]; kernel_rfl) ?_; intro w2 hr2 hg2))
      refine bodyPost_ret (v := .agg xs.toArray) ?_ rfl ⟨rfl, grown_own HGR.out hg2 (by have := HG.out; omega)⟩
      exact results_row Try.results44 (G + 1 + 1) 37 xs _ rfl hr2 Try.underlying37 rfl (by rw [HL.out]; kernel_rfl)
end Go.Proofs.Ytjcbdplbekecjaa
