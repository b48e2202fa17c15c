/-
  The walk of the law SumLike.
-/
import Derived.Test.YtmpelcgmfdggfaaDoorRegBytes
import Derived.BigRegion
namespace Go.Proofs.YtmpelcgmfdggfaaDoor
open Go.RowKit

def zipX (l m : List UInt8) (k : Nat) : List UInt8 := List.zipWith (· ^^^ ·) (l.take k) (m.take k)
/-- The bytes of both when k of n are xored. -/
def soFar (l m : List UInt8) (n k : Nat) : List UInt8 := zipX l m k ++ List.replicate (n - k) 0
theorem soFar_zero (l m : List UInt8) (n : Nat) : soFar l m n 0 = List.replicate n 0 := by simp [soFar, zipX]
theorem soFar_all (l m : List UInt8) (n : Nat) (h1 : l.length = n) (h2 : m.length = n) : soFar l m n n = List.zipWith (· ^^^ ·) l m := by
  simp [soFar, zipX, List.take_of_length_le, h1, h2]
theorem soFar_len (l m : List UInt8) (n k : Nat) (h1 : l.length = n) (h2 : m.length = n) (hk : k ≤ n) : (soFar l m n k).length = n := by
  simp [soFar, zipX, h1, h2]; omega
theorem soFar_next (l m : List UInt8) (n k : Nat) (h1 : l.length = n) (h2 : m.length = n) (hk : k < n) : (soFar l m n k).set k (l[k] ^^^ m[k]) = soFar l m n (k + 1) := by
  have hz : (zipX l m k).length = k := by simp [zipX, h1, h2]; omega
  have hz1 : zipX l m (k + 1) = zipX l m k ++ [l[k] ^^^ m[k]] := by
    unfold zipX
    rw [List.take_succ_eq_append_getElem (by omega), List.take_succ_eq_append_getElem (by omega), List.zipWith_append (by simp [h1, h2])]
    rfl
  have hr : List.replicate (n - k) (0 : UInt8) = 0 :: List.replicate (n - (k + 1)) 0 := by
    rw [show n - k = n - (k + 1) + 1 by omega, List.replicate_succ]
  unfold soFar
  rw [List.set_append, if_neg (by omega), hz, Nat.sub_self, hr, List.set_cons_zero, hz1]
  simp

/-- The sums of two texts, of both xored, of noughts. -/
theorem like_nat (l m : List UInt8) (n : Nat) (h1 : l.length = n) (h2 : m.length = n) : ∃ xy : Nat, bits .xor .u32 ((crc l).toNat : Int) ((crc m).toNat : Int) = (xy : Int) ∧ bits .xor .u32 (xy : Int) ((crc (List.replicate n 0)).toNat : Int) = ((crc (List.zipWith (· ^^^ ·) l m)).toNat : Int) := by
  refine ⟨(crc l ^^^ crc m).toNat, xor32 _ _, ?_⟩
  rw [xor32, crc_like l m (by omega), h1]

/-- The sum of one slice, as a number. -/
theorem of_nat (A : Option Addr) (n c : Nat) (l : List UInt8) (w : World) (t : TypeId) (H : Nat) (hH : w.heap.size = H) (hT : Tab w) (hr : Rd w (.slice A n c) (bytesV l)) :
    Calls Tryd.prog 10 #[.slice (some ⟨H, 0, none⟩) 1 1] (w.alloc (.cells #[.slice A n c] t)) fun e w' => e = .returned (.int .u32 ((crc l).toNat : Int)) ∧ w' = w.alloc (.cells #[.slice A n c] t) := by
  subst hH
  exact of_one A n c l w t hT hr

set_option maxHeartbeats 1000000 in
theorem sumLike_walk (A : Option Addr) (n c : Nat) (l : List UInt8) (A2 : Option Addr) (n2 c2 : Nat) (l2 : List UInt8) (w : World) (hT : Tab w) (hr : Rd w (.slice A n c) (bytesV l)) (hr2 : Rd w (.slice A2 n2 c2) (bytesV l2)) :
    Calls Tryd.prog 7 #[.slice A n c, .slice A2 n2 c2] w (Awake w) := by
  have HR := Lib.hid hr
  have HR2 := Lib.hid hr2
  have HT := Lib.hid hT
  have hl := hr.len.1
  have hl2 := hr2.len.1
  rw [bytesV_len] at hl hl2
  clear hr hr2 hT
  by_cases h : 1000 < n
  · have hb : decide (1000 < (n : Int)) = true := by simp; omega
    clear hl hl2
    go_enter Tryd.func7, Tryd.ntmps7
    go_wp2_with fail
    refine (awake_any _ HT.out).mono ?_
    rintro e w1 ⟨rfl, hg1⟩
    go_wp2
    go_ret
    exact ⟨rfl, hg1⟩
  · have hb : decide (1000 < (n : Int)) = false := by simp; omega
    by_cases hn : n = n2
    · subst hn
      have HL := Lib.hid (And.intro hl hl2)
      clear hl hl2
      have hmk : ∃ C : Array Value, C.toList = bytesV (List.replicate n 0) ∧ ∀ W : World, (Instr.makeSlice 22 (.int .i64 (n : Int)) (.int .i64 (n : Int))).run Tryd.prog W = .ok (.slice (some ⟨W.heap.size, 0, none⟩) n n) (W.alloc (.cells C 5)) := by
        obtain ⟨i, hi, hz, hs1, hb1⟩ := infoByte
        refine ⟨madeCells #[.int .u8 0] n, ?_, fun W => ?_⟩
        · rw [toList_madeCells_one]; simp [bytesV, byteV]
        · have hr := run_make (P := Tryd.prog) W 22 5 i (.int .u8 0) Tryd.underlying22 hi hz .i64 .i64 n n (by omega) (Int.le_refl _) (by rw [hb1]; omega) (by omega)
          simp only [Int.toNat_natCast] at hr
          rw [hr, hs1, Nat.mul_one]
          rfl
      obtain ⟨C, hC, hmk⟩ := hmk
      have HC := Lib.hid hC
      clear hC
      go_enter Tryd.func7, Tryd.ntmps7
      go_wp2_with fail
      go_region
      · have hg0 : w.grownBy ((w.alloc (.cells C 5)).alloc (.cells C 5)).drew none := grown_drew (grown_alloc (grown_alloc (grown_refl _ _) _) _)
        have hsC : C.size = n := by rw [← Array.length_toList, HC.out, bytesV_len]; simp
        have hoa : ((w.alloc (.cells C 5)).alloc (.cells C 5)).drew.ownsRow w.heap.size 5 1 (.slice (some ⟨w.heap.size, 0, none⟩) n n) n C.toList := own_drew ((World.ownsRow_lit w C n (Nat.le_refl _) (by simp only [maxLen]; omega) (by omega)).alloc _)
        have hob : ((w.alloc (.cells C 5)).alloc (.cells C 5)).drew.ownsRow w.heap.size 5 1 (.slice (some ⟨w.heap.size + 1, 0, none⟩) n n) n C.toList := by
          have := World.ownsRow_lit (base := w.heap.size) (e := 5) (size := 1) (w.alloc (.cells C 5)) C n (by simp) (by simp only [maxLen]; omega) (by omega)
          have e1 : (w.alloc (.cells C 5)).heap.size = w.heap.size + 1 := by simp
          rw [e1] at this
          exact own_drew this
        rw [HC.out] at hoa hob
        generalize ((w.alloc (.cells C 5)).alloc (.cells C 5)).drew = W at *
        obtain ⟨ga, hga⟩ : ∃ ga, ga = w.heap.size := ⟨_, rfl⟩
        obtain ⟨gb, hgb⟩ : ∃ gb, gb = w.heap.size + 1 := ⟨_, rfl⟩
        rw [← hgb, ← hga]
        rw [← hga] at hoa
        rw [← hgb] at hob
        have HOA : Hid (W.ownsRow w.heap.size 5 1 (.slice (some ⟨ga, 0, none⟩) n n) n (bytesV (List.replicate n 0))) := by rw [← hga]; exact hoa
        have HOB : Hid (W.ownsRow w.heap.size 5 1 (.slice (some ⟨gb, 0, none⟩) n n) n (bytesV (List.replicate n 0))) := hob
        have HG0 := Lib.hid hg0
        have HNE : Hid (ga ≠ gb ∧ w.heap.size ≤ ga ∧ w.heap.size ≤ gb) := (by omega : ga ≠ gb ∧ w.heap.size ≤ ga ∧ w.heap.size ≤ gb)
        have hn1 : n ≤ 1000 := by omega
        clear hoa hob hg0 hga hgb hmk hsC HC h
        have HO5 := HOA
        have HO6 := HOB
        have HN56 : Hid (ga ≠ gb ∧ w.heap.size ≤ ga) := (by have := HNE.out; omega : ga ≠ gb ∧ w.heap.size ≤ ga)
        clear HOA HOB HNE
        refine (by assumption : ∀ (a : Act) (w_1 : World), _ → _) _ _ ?_
        go_wp2
        go_loopw [27] (fun i V => ∃ k : Nat, k ≤ n ∧ i = .int .i64 k ∧ V.ownsRow w.heap.size 5 1 (.slice (some ⟨ga, 0, none⟩) n n) n (bytesV (soFar l l2 n k)) ∧ W.grownBy V (some ga)) (fun i _ => n - (intOf i).toNat)
        case atStart => exact ⟨0, Nat.zero_le _, rfl, by rw [soFar_zero]; exact HO5.out, grown_refl _ _⟩
        case round =>
          obtain ⟨k, hk, rfl, hown, hgr⟩ := hrel
          have hgw : w.grownBy wr none := grown_new HG0.out hgr (fun b hb => by injection hb with hb; have := HN56.out; omega)
          by_cases hlt : k < n
          · have hr1 := HR.out.grown0 hgw
            have hr2 := HR2.out.grown0 hgw
            have hk1 : k < l.length := by rw [HL.out.1]; exact hlt
            have hk2 : k < l2.length := by rw [HL.out.2]; exact hlt
            have hnext := soFar_next l l2 n k HL.out.1 HL.out.2 hlt
            have hlen := soFar_len l l2 n k HL.out.1 HL.out.2 hk
            obtain ⟨ad, y, rfl, hd1, hcell1⟩ := Rd.at_ hr1 hk1
            obtain ⟨ad2, z, rfl, hd2, hcell2⟩ := Rd.at_ hr2 hk2
            rw [List.drop_eq_getElem_cons hk1] at hd1
            rw [List.drop_eq_getElem_cons hk2] at hd2
            injection hd1 with hy _
            injection hd2 with hz _
            rw [hy, hz] at hnext
            have hold : ∃ u, wr.cell? ⟨ga, k, none⟩ = some u := by
              rw [hown.cellAt k (by omega)]
              exact ⟨_, List.getElem?_eq_getElem (by rw [bytesV_len, hlen]; exact hlt)⟩
            obtain ⟨u, hold⟩ := hold
            have hfr := hown.frozenAt k
            have hst := hown.stored k (byteV (y ^^^ z))
            have hset : (bytesV (soFar l l2 n k)).set k (byteV (y ^^^ z)) = bytesV (soFar l l2 n (k + 1)) := by rw [← hnext]; simp [bytesV, List.map_set]
            rw [hset] at hst
            have HX := Lib.hid (xor8 y z)
            have HST : Hid ((wr.setCell ⟨ga, k, none⟩ (.int .u8 ((y ^^^ z).toNat : Int))).ownsRow w.heap.size 5 1 (.slice (some ⟨ga, 0, none⟩) n n) n (bytesV (soFar l l2 n (k + 1))) ∧ wr.grownBy (wr.setCell ⟨ga, k, none⟩ (.int .u8 ((y ^^^ z).toNat : Int))) (some ga)) := hst
            have HGR := Lib.hid hgr
            have hy8 := UInt8.toNat_lt y
            have hz8 := UInt8.toNat_lt z
            clear hst hset hnext hlen hy hz hk1 hk2 hr1 hr2 hgr hgw hown
            go_wp2_with fail
            go_region
            rw [HX.out]
            go_wp2
            go_roundw
            case rel => exact ⟨k + 1, by omega, by go_num, own_drew HST.out.1, grown_drew (grown_trans' HGR.out HST.out.2)⟩
            case measure => simp [intOf]; omega
          · obtain rfl : k = n := by omega
            rw [soFar_all l l2 k HL.out.1 HL.out.2] at hown
            have hr1 := HR.out.grown0 hgw
            have hr2 := HR2.out.grown0 hgw
            have hr5 := Rd.of_own hown
            have hr6 := Rd.of_own (HO6.out.kept hgr (.inr (by have := HN56.out; simp [Value.ownBlock]; omega)))
            have hT := HT.out.grown hgw
            obtain ⟨xy, hx1, hx2⟩ := like_nat l l2 k HL.out.1 HL.out.2
            have H5 := Lib.hid (fun t => of_nat _ k k _ wr t _ rfl hT hr5)
            have H1 := Lib.hid (fun (o : Obj) t => of_nat A k c l (wr.alloc o) t (wr.heap.size + 1) (by simp) (hT.alloc o) (hr1.alloc o))
            have H2 := Lib.hid (fun (o p : Obj) t => of_nat A2 k c2 l2 ((wr.alloc o).alloc p) t (wr.heap.size + 1 + 1) (by simp) ((hT.alloc o).alloc p) ((hr2.alloc o).alloc p))
            have H6 := Lib.hid (fun (o p q : Obj) t => of_nat _ k k _ (((wr.alloc o).alloc p).alloc q) t (wr.heap.size + 1 + 1 + 1) (by simp) (((hT.alloc o).alloc p).alloc q) (((hr6.alloc o).alloc p).alloc q))
            have HA := Lib.hid (fun (o p q r : Obj) => awake_any ((((wr.alloc o).alloc p).alloc q).alloc r) ((((hT.alloc o).alloc p).alloc q).alloc r))
            have HGW := Lib.hid hgw
            generalize (crc l).toNat = X at *
            generalize (crc l2).toNat = Y at *
            generalize (crc (List.replicate k 0)).toNat = Z at *
            generalize (crc (List.zipWith (fun x1 x2 => x1 ^^^ x2) l l2)).toNat = R at *
            clear hr1 hr2 hr5 hr6 hT hgr hgw hown HR HR2 HT HO5 HO6 HG0
            go_wp2_with fail
            refine (H5.out _).mono ?_
            rintro e w1 ⟨rfl, rfl⟩
            go_wp2_with fail
            refine (H1.out _ _).mono ?_
            rintro e w1 ⟨rfl, rfl⟩
            go_wp2_with fail
            refine (H2.out _ _ _).mono ?_
            rintro e w1 ⟨rfl, rfl⟩
            go_wp2_with fail
            refine (H6.out _ _ _ _).mono ?_
            rintro e w1 ⟨rfl, rfl⟩
            go_wp2_with fail
            refine (HA.out _ _ _ _).mono ?_
            rintro e w1 ⟨rfl, hg1⟩
            go_wp2
            go_ret
            exact ⟨rfl, (grown_alloc (grown_alloc (grown_alloc (grown_alloc HGW.out _) _) _) _).trans hg1⟩
      · have hg0 : w.grownBy ((w.alloc (.cells C 5)).alloc (.cells C 5)).drew none := grown_drew (grown_alloc (grown_alloc (grown_refl _ _) _) _)
        have hsC : C.size = n := by rw [← Array.length_toList, HC.out, bytesV_len]; simp
        have hoa : ((w.alloc (.cells C 5)).alloc (.cells C 5)).drew.ownsRow w.heap.size 5 1 (.slice (some ⟨w.heap.size, 0, none⟩) n n) n C.toList := own_drew ((World.ownsRow_lit w C n (Nat.le_refl _) (by simp only [maxLen]; omega) (by omega)).alloc _)
        have hob : ((w.alloc (.cells C 5)).alloc (.cells C 5)).drew.ownsRow w.heap.size 5 1 (.slice (some ⟨w.heap.size + 1, 0, none⟩) n n) n C.toList := by
          have := World.ownsRow_lit (base := w.heap.size) (e := 5) (size := 1) (w.alloc (.cells C 5)) C n (by simp) (by simp only [maxLen]; omega) (by omega)
          have e1 : (w.alloc (.cells C 5)).heap.size = w.heap.size + 1 := by simp
          rw [e1] at this
          exact own_drew this
        rw [HC.out] at hoa hob
        generalize ((w.alloc (.cells C 5)).alloc (.cells C 5)).drew = W at *
        obtain ⟨ga, hga⟩ : ∃ ga, ga = w.heap.size := ⟨_, rfl⟩
        obtain ⟨gb, hgb⟩ : ∃ gb, gb = w.heap.size + 1 := ⟨_, rfl⟩
        rw [← hgb, ← hga]
        rw [← hga] at hoa
        rw [← hgb] at hob
        have HOA : Hid (W.ownsRow w.heap.size 5 1 (.slice (some ⟨ga, 0, none⟩) n n) n (bytesV (List.replicate n 0))) := by rw [← hga]; exact hoa
        have HOB : Hid (W.ownsRow w.heap.size 5 1 (.slice (some ⟨gb, 0, none⟩) n n) n (bytesV (List.replicate n 0))) := hob
        have HG0 := Lib.hid hg0
        have HNE : Hid (ga ≠ gb ∧ w.heap.size ≤ ga ∧ w.heap.size ≤ gb) := (by omega : ga ≠ gb ∧ w.heap.size ≤ ga ∧ w.heap.size ≤ gb)
        have hn1 : n ≤ 1000 := by omega
        clear hoa hob hg0 hga hgb hmk hsC HC h
        have HO5 := HOB
        have HO6 := HOA
        have HN56 : Hid (gb ≠ ga ∧ w.heap.size ≤ gb) := (by have := HNE.out; omega : gb ≠ ga ∧ w.heap.size ≤ gb)
        clear HOA HOB HNE
        refine (by assumption : ∀ (a : Act) (w_1 : World), _ → _) _ _ ?_
        go_wp2
        go_loopw [27] (fun i V => ∃ k : Nat, k ≤ n ∧ i = .int .i64 k ∧ V.ownsRow w.heap.size 5 1 (.slice (some ⟨gb, 0, none⟩) n n) n (bytesV (soFar l l2 n k)) ∧ W.grownBy V (some gb)) (fun i _ => n - (intOf i).toNat)
        case atStart => exact ⟨0, Nat.zero_le _, rfl, by rw [soFar_zero]; exact HO5.out, grown_refl _ _⟩
        case round =>
          obtain ⟨k, hk, rfl, hown, hgr⟩ := hrel
          have hgw : w.grownBy wr none := grown_new HG0.out hgr (fun b hb => by injection hb with hb; have := HN56.out; omega)
          by_cases hlt : k < n
          · have hr1 := HR.out.grown0 hgw
            have hr2 := HR2.out.grown0 hgw
            have hk1 : k < l.length := by rw [HL.out.1]; exact hlt
            have hk2 : k < l2.length := by rw [HL.out.2]; exact hlt
            have hnext := soFar_next l l2 n k HL.out.1 HL.out.2 hlt
            have hlen := soFar_len l l2 n k HL.out.1 HL.out.2 hk
            obtain ⟨ad, y, rfl, hd1, hcell1⟩ := Rd.at_ hr1 hk1
            obtain ⟨ad2, z, rfl, hd2, hcell2⟩ := Rd.at_ hr2 hk2
            rw [List.drop_eq_getElem_cons hk1] at hd1
            rw [List.drop_eq_getElem_cons hk2] at hd2
            injection hd1 with hy _
            injection hd2 with hz _
            rw [hy, hz] at hnext
            have hold : ∃ u, wr.cell? ⟨gb, k, none⟩ = some u := by
              rw [hown.cellAt k (by omega)]
              exact ⟨_, List.getElem?_eq_getElem (by rw [bytesV_len, hlen]; exact hlt)⟩
            obtain ⟨u, hold⟩ := hold
            have hfr := hown.frozenAt k
            have hst := hown.stored k (byteV (y ^^^ z))
            have hset : (bytesV (soFar l l2 n k)).set k (byteV (y ^^^ z)) = bytesV (soFar l l2 n (k + 1)) := by rw [← hnext]; simp [bytesV, List.map_set]
            rw [hset] at hst
            have HX := Lib.hid (xor8 y z)
            have HST : Hid ((wr.setCell ⟨gb, k, none⟩ (.int .u8 ((y ^^^ z).toNat : Int))).ownsRow w.heap.size 5 1 (.slice (some ⟨gb, 0, none⟩) n n) n (bytesV (soFar l l2 n (k + 1))) ∧ wr.grownBy (wr.setCell ⟨gb, k, none⟩ (.int .u8 ((y ^^^ z).toNat : Int))) (some gb)) := hst
            have HGR := Lib.hid hgr
            have hy8 := UInt8.toNat_lt y
            have hz8 := UInt8.toNat_lt z
            clear hst hset hnext hlen hy hz hk1 hk2 hr1 hr2 hgr hgw hown
            go_wp2_with fail
            go_region
            rw [HX.out]
            go_wp2
            go_roundw
            case rel => exact ⟨k + 1, by omega, by go_num, own_drew HST.out.1, grown_drew (grown_trans' HGR.out HST.out.2)⟩
            case measure => simp [intOf]; omega
          · obtain rfl : k = n := by omega
            rw [soFar_all l l2 k HL.out.1 HL.out.2] at hown
            have hr1 := HR.out.grown0 hgw
            have hr2 := HR2.out.grown0 hgw
            have hr5 := Rd.of_own hown
            have hr6 := Rd.of_own (HO6.out.kept hgr (.inr (by have := HN56.out; simp [Value.ownBlock]; omega)))
            have hT := HT.out.grown hgw
            obtain ⟨xy, hx1, hx2⟩ := like_nat l l2 k HL.out.1 HL.out.2
            have H5 := Lib.hid (fun t => of_nat _ k k _ wr t _ rfl hT hr5)
            have H1 := Lib.hid (fun (o : Obj) t => of_nat A k c l (wr.alloc o) t (wr.heap.size + 1) (by simp) (hT.alloc o) (hr1.alloc o))
            have H2 := Lib.hid (fun (o p : Obj) t => of_nat A2 k c2 l2 ((wr.alloc o).alloc p) t (wr.heap.size + 1 + 1) (by simp) ((hT.alloc o).alloc p) ((hr2.alloc o).alloc p))
            have H6 := Lib.hid (fun (o p q : Obj) t => of_nat _ k k _ (((wr.alloc o).alloc p).alloc q) t (wr.heap.size + 1 + 1 + 1) (by simp) (((hT.alloc o).alloc p).alloc q) (((hr6.alloc o).alloc p).alloc q))
            have HA := Lib.hid (fun (o p q r : Obj) => awake_any ((((wr.alloc o).alloc p).alloc q).alloc r) ((((hT.alloc o).alloc p).alloc q).alloc r))
            have HGW := Lib.hid hgw
            generalize (crc l).toNat = X at *
            generalize (crc l2).toNat = Y at *
            generalize (crc (List.replicate k 0)).toNat = Z at *
            generalize (crc (List.zipWith (fun x1 x2 => x1 ^^^ x2) l l2)).toNat = R at *
            clear hr1 hr2 hr5 hr6 hT hgr hgw hown HR HR2 HT HO5 HO6 HG0
            go_wp2_with fail
            refine (H5.out _).mono ?_
            rintro e w1 ⟨rfl, rfl⟩
            go_wp2_with fail
            refine (H1.out _ _).mono ?_
            rintro e w1 ⟨rfl, rfl⟩
            go_wp2_with fail
            refine (H2.out _ _ _).mono ?_
            rintro e w1 ⟨rfl, rfl⟩
            go_wp2_with fail
            refine (H6.out _ _ _ _).mono ?_
            rintro e w1 ⟨rfl, rfl⟩
            go_wp2_with fail
            refine (HA.out _ _ _ _).mono ?_
            rintro e w1 ⟨rfl, hg1⟩
            go_wp2
            go_ret
            exact ⟨rfl, (grown_alloc (grown_alloc (grown_alloc (grown_alloc HGW.out _) _) _) _).trans hg1⟩
    · have hnb : ((n : Int) != (n2 : Int)) = true := by simp; omega
      have hne : ¬ (n : Int) = (n2 : Int) := by omega
      clear hl hl2
      go_enter Tryd.func7, Tryd.ntmps7
      go_wp2_with fail
      refine (awake_any _ HT.out).mono ?_
      rintro e w1 ⟨rfl, hg1⟩
      go_wp2
      go_ret
      exact ⟨rfl, hg1⟩
end Go.Proofs.YtmpelcgmfdggfaaDoor
