/-
  The walk of the law SumTurned.
-/
import Derived.Test.YtmpelcgmfdggfaaDoorSumAwake
import Derived.Test.YtmpelcgmfdggfaaDoorAppBytes
namespace Go.Proofs.YtmpelcgmfdggfaaDoor
open Go.RowKit

theorem xor_ne (y b : UInt8) (h : b ≠ 0) : y ^^^ b ≠ y := by
  intro e
  apply h
  have : y ^^^ (y ^^^ b) = y ^^^ y := by rw [e]
  rw [← UInt8.xor_assoc, UInt8.xor_self, UInt8.zero_xor] at this
  exact this

set_option maxHeartbeats 1000000 in
theorem sumTurned_early (A : Option Addr) (n c : Nat) (k : Int) (b : UInt8) (w : World) (hT : Tab w) (h : 3000 < n ∨ k < 0 ∨ (n : Int) ≤ k ∨ b = 0) :
    Calls Tryd.prog 5 #[.slice A n c, .int .i64 k, .int .u8 (b.toNat : Int)] w (Awake w) := by
  have HT := Lib.hid hT
  clear hT
  rcases Nat.lt_or_ge 3000 n with h1 | h1
  · have hb : decide (3000 < (n : Int)) = true := by simp; omega
    clear h
    go_enter Tryd.func5, Tryd.ntmps5
    go_wp2_with fail
    refine (awake_any _ HT.out).mono ?_
    rintro e w1 ⟨rfl, hg1⟩
    go_wp2
    go_ret
    exact ⟨rfl, hg1⟩
  · have hb : decide (3000 < (n : Int)) = false := by simp; omega
    by_cases h2 : k < 0
    · have hb2 : decide (k < 0) = true := by simpa using h2
      clear h
      go_enter Tryd.func5, Tryd.ntmps5
      go_wp2_with fail
      refine (awake_any _ HT.out).mono ?_
      rintro e w1 ⟨rfl, hg1⟩
      go_wp2
      go_ret
      exact ⟨rfl, hg1⟩
    · have hb2 : decide (k < 0) = false := by simpa using h2
      by_cases h3 : (n : Int) ≤ k
      · have hb3 : decide ((n : Int) ≤ k) = true := by simpa using h3
        clear h
        go_enter Tryd.func5, Tryd.ntmps5
        go_wp2_with fail
        refine (awake_any _ HT.out).mono ?_
        rintro e w1 ⟨rfl, hg1⟩
        go_wp2
        go_ret
        exact ⟨rfl, hg1⟩
      · have hb3 : decide ((n : Int) ≤ k) = false := by simpa using h3
        obtain rfl : b = 0 := by
          rcases h with h | h | h | h
          · omega
          · exact absurd h h2
          · exact absurd h h3
          · exact h
        go_enter Tryd.func5, Tryd.ntmps5
        go_wp2_with fail
        refine (awake_any _ HT.out).mono ?_
        rintro e w1 ⟨rfl, hg1⟩
        go_wp2
        go_ret
        exact ⟨rfl, hg1⟩

set_option maxHeartbeats 1000000 in
theorem sumTurned_late (A : Option Addr) (n c : Nat) (l : List UInt8) (k : Nat) (b : UInt8) (w : World) (hT : Tab w) (hr : Rd w (.slice A n c) (bytesV l)) (h1 : n ≤ 3000) (hk : k < n) (hb0 : b ≠ 0) :
    Calls Tryd.prog 5 #[.slice A n c, .int .i64 (k : Int), .int .u8 (b.toNat : Int)] w (Awake w) := by
  have hl := hr.len.1
  rw [bytesV_len] at hl
  have hkl : k < l.length := by omega
  have hb : decide (3000 < (n : Int)) = false := by simp; omega
  have hb2 : decide ((k : Int) < 0) = false := by simp
  have hb3 : decide ((n : Int) ≤ (k : Int)) = false := by simp; omega
  have hbn : (b.toNat : Int) ≠ 0 := fun e => hb0 (UInt8.toNat_inj.1 (by simpa using e))
  have hb4 : ((b.toNat : Int) == 0) = false := by simpa using hbn
  have HR := Lib.hid hr
  have HT := Lib.hid hT
  have hcut : l = l.take k ++ l[k] :: l.drop (k + 1) := by rw [← List.drop_eq_getElem_cons hkl, List.take_append_drop]
  have hset : l.set k (l[k] ^^^ b) = l.take k ++ (l[k] ^^^ b) :: l.drop (k + 1) := by
    rw [List.set_eq_take_append_cons_drop, if_pos hkl]
  have hne : crc (l.set k (l[k] ^^^ b)) ≠ crc l := by
    rw [hset]
    conv => rhs; rw [hcut]
    exact crc_turned _ _ _ _ (xor_ne _ _ hb0)
  have hcell0 : (bytesV l)[k]? = some (byteV l[k]) := by simp [bytesV, List.getElem?_eq_getElem hkl]
  have hvset : (bytesV l).set k (byteV (l[k] ^^^ b)) = bytesV (l.set k (l[k] ^^^ b)) := by simp [bytesV, List.map_set]
  have hx := xor8 l[k] b
  generalize l[k] = y at *
  generalize hm : l.set k (y ^^^ b) = m at *
  have HNE := Lib.hid hne
  have HC0 := Lib.hid hcell0
  have HVS := Lib.hid hvset
  have HX := Lib.hid hx
  have HL := Lib.hid (And.intro hl (And.intro h1 hk))
  have hyb := UInt8.toNat_lt y
  have hbb := UInt8.toNat_lt b
  clear hr hT hcut hset hne hcell0 hvset hx hl hm hkl hb0 hbn
  go_enter Tryd.func5, Tryd.ntmps5
  go_wp2_with (at_builtin; refine wpList_append_bytes _ rfl _ _ rfl w.heap.size _ 0 [] rfl (own_empty w _ (Nat.le_refl _)) _ l rfl (HR.out.alloc _) ?_ ?_ ?_)
  · have := HL.out; omega
  · simp
  · intro v1 w1 ho1 hg1 hat1
    have hgw1 : w.grownBy w1 none := grown_new (grown_alloc (grown_refl _ _) _) hg1 (fun b hb => by simp [Value.ownBlock] at hb; omega)
    have hrow1 : ∀ b, v1.ownBlock = some b → w.heap.size ≤ b := fun b hb => (ho1.lt b hb).1
    clear hg1 hat1
    rw [HL.out.1] at ho1
    have hex : ∃ g cap, v1 = .slice (some ⟨g, 0, none⟩) n cap := by
      rcases ho1.2 with ⟨_, h0⟩ | ⟨g, cap, cur, h0, _⟩
      · omega
      · exact ⟨g, cap, h0⟩
    obtain ⟨g, cap, hv⟩ := hex
    subst hv
    have hge : w.heap.size ≤ g := hrow1 g rfl
    have hcell : w1.cell? ⟨g, k, none⟩ = some (.int .u8 (y.toNat : Int)) := by rw [ho1.cellAt k (by omega), HC0.out]; rfl
    have hfr : w1.frozen? ⟨g, k, none⟩ = false := ho1.frozenAt k
    have hst := ho1.stored k (byteV (y ^^^ b))
    rw [HVS.out] at hst
    have HST : Hid ((w1.setCell ⟨g, k, none⟩ (.int .u8 ((y ^^^ b).toNat : Int))).ownsRow w.heap.size 5 1 (.slice (some ⟨g, 0, none⟩) n cap) n (bytesV m) ∧ w1.grownBy (w1.setCell ⟨g, k, none⟩ (.int .u8 ((y ^^^ b).toNat : Int))) (some g)) := hst
    have HSZ : Hid (w1.heap.size = (w1.setCell ⟨g, k, none⟩ (.int .u8 ((y ^^^ b).toNat : Int))).heap.size) := (by simp : w1.heap.size = (w1.setCell ⟨g, k, none⟩ (.int .u8 ((y ^^^ b).toNat : Int))).heap.size)
    clear hst
    have HG1 := Lib.hid hgw1
    have HGE := Lib.hid hge
    clear hrow1 ho1 hgw1 hge
    go_wp2_with fail
    rw [HX.out, HSZ.out]
    clear hcell hfr HSZ
    have hg2 : w.grownBy (w1.setCell ⟨g, k, none⟩ (.int .u8 ((y ^^^ b).toNat : Int))) none := grown_new HG1.out HST.out.2 (fun b hb => by injection hb with hb; have := HGE.out; omega)
    have hr2 := Rd.of_own HST.out.1
    generalize w1.setCell ⟨g, k, none⟩ (.int .u8 ((y ^^^ b).toNat : Int)) = w2 at *
    have hT2 := HT.out.grown hg2
    have HR2 := Lib.hid hr2
    have HT2 := Lib.hid hT2
    have HG2 := Lib.hid hg2
    have HO2 := Lib.hid (HR.out.grown0 hg2)
    clear hr2 hT2 hg2 HST HG1
    have hneq : ¬ ((crc m).toNat : Int) = ((crc l).toNat : Int) := fun e => HNE.out (BitVec.eq_of_toNat_eq (by omega))
    refine (of_one _ n cap m w2 _ HT2.out HR2.out).mono ?_
    rintro e w3 ⟨rfl, rfl⟩
    have HB := fun (o : Obj) => of_one A n c l (w2.alloc o) 22 (HT2.out.alloc o) (HO2.out.alloc o)
    have HC := fun (o p : Obj) => of_one A n c l ((w2.alloc o).alloc p) 22 ((HT2.out.alloc o).alloc p) ((HO2.out.alloc o).alloc p)
    have HD := fun (o p q : Obj) => refOf_any _ l (((w2.alloc o).alloc p).alloc q) (((HO2.out.alloc o).alloc p).alloc q)
    have e1 : ∀ o : Obj, (w2.alloc o).heap.size = w2.heap.size + 1 := fun o => by simp
    have e2 : ∀ o p : Obj, ((w2.alloc o).alloc p).heap.size = w2.heap.size + 1 + 1 := fun o p => by simp
    simp only [e1, e2] at HB HC
    have HB' := Lib.hid HB
    have HC' := Lib.hid HC
    have HD' := Lib.hid HD
    clear HB HC HD e1 e2 HNE
    generalize crc m = X at *
    generalize crc l = Y at *
    go_wp2_with fail
    refine (HB'.out _).mono ?_
    rintro e w3 ⟨rfl, rfl⟩
    go_wp2_with fail
    refine (HC'.out _ _).mono ?_
    rintro e w3 ⟨rfl, rfl⟩
    go_wp2_with fail
    refine (HD'.out _ _ _).mono ?_
    rintro e w3 ⟨rfl, rfl⟩
    go_wp2_with fail
    refine (awake_any _ (((HT2.out.alloc _).alloc _).alloc _)).mono ?_
    rintro e w3 ⟨rfl, hg3⟩
    go_wp2
    go_ret
    have hnb : ((X.toNat : Int) != (Y.toNat : Int)) = true := by simpa using hneq
    exact ⟨congrArg (fun b => Ending.returned (.bool b)) hnb, (grown_alloc (grown_alloc (grown_alloc HG2.out _) _) _).trans hg3⟩

theorem sumTurned_walk (A : Option Addr) (n c : Nat) (l : List UInt8) (k z : Int) (w : World) (hT : Tab w) (hr : Rd w (.slice A n c) (bytesV l)) (hz : 0 ≤ z ∧ z ≤ 255) :
    Calls Tryd.prog 5 #[.slice A n c, .int .i64 k, .int .u8 z] w (Awake w) := by
  obtain ⟨Z, rfl⟩ := Int.eq_ofNat_of_zero_le hz.1
  obtain ⟨b, hb⟩ : ∃ b : UInt8, b.toNat = Z := ⟨UInt8.ofNat Z, by rw [UInt8.toNat_ofNat']; omega⟩
  rw [← hb]
  by_cases h : 3000 < n ∨ k < 0 ∨ (n : Int) ≤ k ∨ b = 0
  · exact sumTurned_early A n c k b w hT h
  · have h1 : n ≤ 3000 := by omega
    have h2 : 0 ≤ k := by omega
    obtain ⟨K, rfl⟩ := Int.eq_ofNat_of_zero_le h2
    exact sumTurned_late A n c l K b w hT hr h1 (by omega) (fun e => h (.inr (.inr (.inr e))))
end Go.Proofs.YtmpelcgmfdggfaaDoor
