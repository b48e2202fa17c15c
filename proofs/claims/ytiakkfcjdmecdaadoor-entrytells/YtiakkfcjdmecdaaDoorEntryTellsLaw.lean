/-
  EntryTells' walk (P13.1): Fine, Total, Within and Find answer what the document says.
-/
import Derived.Test.YtiakkfcjdmecdaaDoorEnSlice
import Derived.Test.YtiakkfcjdmecdaaDoorEnFind
import Derived.Test.YtiakkfcjdmecdaaDoorEnTotalP
import Derived.Test.YtiakkfcjdmecdaaDoorEnWin
import Derived.Test.YtiakkfcjdmecdaaDoorEnAwake
namespace Go.Proofs.YtiakkfcjdmecdaaDoor
set_option maxRecDepth 1000000
open Go.RowKit

section
variable {o : Oper} {a : Act} {w : World}
theorem st_eqP {x y : Operand} {d : En} (h : o.op = .binOp .eql 38 x y 38) (hx : Is (enV d) (a.eval x) w) (hy : Is (enV d) (a.eval y) w) : Runs (Is (.bool true)) o a w := by
  have hx' : a.eval x = enV d := hx
  have hy' : a.eval y = enV d := hy
  refine ⟨_, ?_, rfl⟩
  unfold execOp
  simp only [h, hx', hy']
  simp only [go_sem, enV, enC]
  simp [go_sem]
end
theorem find_drop {l : List En} {p : List UInt8} {k : Nat} (hk : k < l.length) : findE (l.drop k) p = if (l.getD k default).path = p then some (l.getD k default) else findE (l.drop (k + 1)) p := by
  have hg : l.getD k default = l[k] := by simp [List.getElem?_eq_getElem hk]
  rw [List.drop_eq_getElem_cons hk, hg, findE, List.find?_cons]
  by_cases h : l[k].path = p
  · simp [h]
  · simp [h, findE]
set_option maxRecDepth 100000 in
set_option maxHeartbeats 8000000 in
theorem entryTells_walk (A : Option Addr) (n c : Nat) (l : List En) (m : Int) (p : List UInt8) (w : World) (hv : RdE w (.slice A n c) l) (hmI : I64 m) :
    Calls Tryd.prog 4 #[.slice A n c, .int .i64 m, .string (bts p)] w (Val (.bool true) w) := by
  have HSH := Lib.hid (short_any A n c l w hv)
  have hln := hv.len.1
  have HN := Lib.hid hln
  have HV := Lib.hid hv
  have HAW := Lib.hid has_awake
  have hps : (bts p).size = p.length := bts_size p
  clear hv hln
  cases hs : shortB l
  · rw [hs] at HSH
    clear hps hmI
    go_enter Tryd.func4, Tryd.ntmps4
    go_wp2_with fail
    refine HSH.out.mono ?_
    rintro e0 w0 ⟨rfl, hg0⟩
    go_wp2_with fail
    refine (HAW.out _).mono ?_
    rintro e1 w1 ⟨rfl, hg1⟩
    go_wp2
    go_ret
    exact ⟨rfl, hg0.trans hg1⟩
  · rw [hs] at HSH
    by_cases hpl : 300 < p.length
    · have d1 : decide ((300 : Int) < (p.length : Int)) = true := decide_eq_true (by omega)
      clear hmI hs
      go_enter Tryd.func4, Tryd.ntmps4
      go_wp2_with fail
      refine HSH.out.mono ?_
      rintro e0 w0 ⟨rfl, hg0⟩
      go_wp2_with fail
      refine (HAW.out _).mono ?_
      rintro e1 w1 ⟨rfl, hg1⟩
      go_wp2
      go_ret
      exact ⟨rfl, hg0.trans hg1⟩
    · have d1 : decide ((300 : Int) < (p.length : Int)) = false := decide_eq_false (by omega)
      obtain ⟨h20, hm, hsz⟩ := short_is hs
      have HFI := Lib.hid (fun w' (h : RdE w' (.slice A n c) l) => has_fine _ l w' h hm hsz h20)
      have HTO := Lib.hid (fun w' (h : RdE w' (.slice A n c) l) => has_total _ l w' h hm hsz h20)
      have HGI := Lib.hid (fun w' (h : RdE w' (.slice A n c) l) => given_any l _ w' h (by omega))
      have HWR : Hid (∀ u w', RdE w' u l → Calls Tryd.prog 20 #[u, .int .i64 m] w' (Val (.int .i64 (withinE l m : Int)) w')) := Lib.hid (fun u w' h => by
        obtain ⟨A, c, rfl⟩ := h.form
        exact (refWithin_any A l.length c 300 l m w' h hm (by decide) (by omega)))
      have HFR := Lib.hid (fun (A : Option Addr) c w' (h : RdE w' (.slice A l.length c) l) => refFine_any A l.length c 300 l w' h hm (by decide) (by omega))
      have HTR := Lib.hid (fun (A : Option Addr) c w' (h : RdE w' (.slice A l.length c) l) => refTotal_any A l.length c 300 l w' h hm (by decide) (by omega))
      have HWI := Lib.hid (fun w' (h : RdE w' (.slice A n c) l) => has_within _ l m w' h hm hsz h20 hmI)
      have HFD := Lib.hid (fun w' (h : RdE w' (.slice A n c) l) => find_any _ p l w' h (by omega))
      have HWL := Lib.hid (within_le l m)
      have HL := Lib.hid (show n ≤ 20 by have := HN.out; omega)
      have HPS := Lib.hid hps
      clear hm hsz hs h20 hmI hpl hps
      go_enter Tryd.func4, Tryd.ntmps4
      have hps := HPS.out
      go_wp2_with fail
      refine HSH.out.mono ?_
      rintro e0 w0 ⟨rfl, hg0⟩
      have G0 := Lib.hid hg0
      have HV0 := Lib.hid (HV.out.grown0 hg0)
      clear hg0
      go_wp2_with fail
      refine (HGI.out _ HV0.out).mono ?_
      rintro e1 w1 ⟨u1, rfl, hu1, hg1⟩
      have G1 := Lib.hid (G0.out.trans hg1)
      have HU1 := Lib.hid hu1
      clear hg1 hu1
      go_wp2_with fail
      refine (HWR.out _ _ HU1.out).mono ?_
      rintro e2 w2 ⟨rfl, hg2⟩
      have G2 := Lib.hid (G1.out.trans hg2)
      have HU2 := Lib.hid (HU1.out.grown0 hg2)
      clear hg2 HU1
      go_wp2_with fail
      refine (HWI.out _ (HV.out.grown0 G2.out)).mono ?_
      rintro e3 w3 ⟨u3, rfl, hu3, hg3⟩
      have G3 := Lib.hid (G2.out.trans hg3)
      have HU3 := Lib.hid (HU2.out.grown0 hg3)
      have hk := HWL.out
      have hlk : (l.take (withinE l m)).length = withinE l m := by rw [List.length_take]; omega
      obtain ⟨A3, c3, rfl⟩ := hu3.form
      rw [hlk] at hu3 ⊢
      generalize withinE l m = k at *
      have HW3 := Lib.hid hu3
      have HKL := Lib.hid hk
      clear hg3 HU2 hu3 hlk hk HWR HWI HGI
      go_wp2_with (refine wpList_runsE rfl (st_takeR k rfl HU3.out rfl rfl HKL.out) ?_; intro v4 hv4; have HV4 := Lib.hid hv4; clear hv4)
      refine (same_val (l.take k) _ v4 w3 HW3.out HV4.out (by have := HL.out; have := HN.out; rw [List.length_take]; omega)).mono ?_
      rintro e4 w4 ⟨rfl, hg4⟩
      have G4 := Lib.hid (G3.out.trans hg4)
      have HU4 := Lib.hid (HU3.out.grown0 hg4)
      clear hg4 HW3 HV4 HU3
      have hnb : n ≤ 20 := HL.out
      go_wp2
      have hZ : Row (w4.alloc (.cells (enC default).toArray 38)) w4.heap.size 38 (enC default) := Row.new _ _ _
      have hG : w4.grownBy (w4.alloc (.cells (enC default).toArray 38)) none := grown_alloc (grown_refl _ _) _
      have hb4 : w4.heap.size < (w4.alloc (.cells (enC default).toArray 38)).heap.size := by simp
      show Code.wp _ _ _ _ (w4.alloc (.cells (enC default).toArray 38))
      generalize (w4.alloc (.cells (enC default).toArray 38)) = W5 at *
      have HZ5 := Lib.hid hZ
      have G5 := Lib.hid (G4.out.trans hG)
      have HG45 := Lib.hid hG
      have HF0 := Lib.hid (show findE (l.drop n) p = none by rw [List.drop_of_length_le (by have := HN.out; omega)]; rfl)
      clear hZ hG hb4
      go_loopw [11, 12] (fun hs i W => ∃ (j : Nat) (z : Int), z + 1 = (j : Int) ∧ j ≤ n ∧ i = .int .i64 z ∧ hs = .bool (findE (l.drop j) p).isSome ∧ Row W w4.heap.size 38 (enC ((findE (l.drop j) p).getD default)) ∧ W5.grownBy W (some w4.heap.size)) (fun _ i _ => (intOf i + 1).toNat)
      case atStart => exact ⟨n, (n : Int) - 1, by omega, Nat.le_refl _, by go_num, by rw [HF0.out]; rfl, by rw [HF0.out]; exact HZ5.out, grown_refl _ _⟩
      case round =>
        obtain ⟨j, z, hz, hj, rfl, rfl, hrow, hg⟩ := hrel
        have HZ := Lib.hid hrow
        have HG := Lib.hid hg
        have HGW := Lib.hid (grown_own HG45.out hg (Nat.le_refl _))
        clear hrow hg
        rcases j with _ | k
        · obtain rfl : z = -1 := by omega
          rw [List.drop_zero] at HZ ⊢
          have HVW := Lib.hid (HV.out.grown0 (G4.out.trans HGW.out))
          have HFD1 := Lib.hid (HFD.out _ HVW.out)
          have HFE := Lib.hid (show FindOut l p = FindOut l p from rfl)
          clear HFD HZ5 HF0
          go_wp2_with fail
          refine HFD1.out.mono ?_
          rintro e6 w6 ⟨rfl, hg6⟩
          have HZ6 := Lib.hid (HZ.out.grown0 hg6)
          have G6 := Lib.hid ((G4.out.trans HGW.out).trans hg6)
          have HU6 := Lib.hid (HU4.out.grown0 (HGW.out.trans hg6))
          generalize (findE l p).getD default = t at *
          generalize (findE l p).isSome = b at *
          clear hg6 HFD1 HZ HG HGW HVW HFE
          simp only [enV, enC]
          go_wp2_with fail
          have hX : Row (w6.alloc (.cells (enC t).toArray 38)) w6.heap.size 38 (enC t) := Row.new _ _ _
          have hGX : w6.grownBy (w6.alloc (.cells (enC t).toArray 38)) none := grown_alloc (grown_refl _ _) _
          have HZ7 := Lib.hid (HZ6.out.grown0 hGX)
          have G7 := Lib.hid (G6.out.trans hGX)
          have HU7 := Lib.hid (HU6.out.grown0 hGX)
          show Calls _ _ _ (w6.alloc (.cells (enC t).toArray 38)) _
          generalize (w6.alloc (.cells (enC t).toArray 38)) = W7 at *
          have HX7 := Lib.hid hX
          clear hX hGX G6 HZ6 HU6
          refine (HFI.out _ (HV.out.grown0 G7.out)).mono ?_
          rintro e8 w8 ⟨rfl, hg8⟩
          have G8 := Lib.hid (G7.out.trans hg8)
          have HZ8 := Lib.hid (HZ7.out.grown0 hg8)
          have HX8 := Lib.hid (HX7.out.grown0 hg8)
          have HU8 := Lib.hid (HU7.out.grown0 hg8)
          clear hg8 HZ7 HX7 HU7 HFI
          obtain ⟨A8, c8, rfl⟩ := HU8.out.form
          rw [HN.out] at HU8 HFR HTR ⊢
          have hff : (fineE l == fineE l) = true := by simp
          have htt : (totalE l == totalE l) = true := by simp
          go_wp2_with fail
          refine (HFR.out A8 c8 _ HU8.out).mono ?_
          rintro e9 w9 ⟨rfl, hg9⟩
          have G9 := Lib.hid (G8.out.trans hg9)
          have HZ9 := Lib.hid (HZ8.out.grown0 hg9)
          have HX9 := Lib.hid (HX8.out.grown0 hg9)
          have HU9 := Lib.hid (HU8.out.grown0 hg9)
          clear hg9 HZ8 HX8 HU8 HFR G8
          generalize fineE l = f at *
          go_wp2_with fail
          refine (HTO.out _ (HV.out.grown0 G9.out)).mono ?_
          rintro e10 w10 ⟨rfl, hg10⟩
          have G10 := Lib.hid (G9.out.trans hg10)
          have HZ10 := Lib.hid (HZ9.out.grown0 hg10)
          have HX10 := Lib.hid (HX9.out.grown0 hg10)
          have HU10 := Lib.hid (HU9.out.grown0 hg10)
          clear hg10 HZ9 HX9 HU9 HTO G9
          go_wp2_with fail
          refine (HTR.out A8 c8 _ HU10.out).mono ?_
          rintro e11 w11 ⟨rfl, hg11⟩
          have G11 := Lib.hid (G10.out.trans hg11)
          have HZ11 := Lib.hid (HZ10.out.grown0 hg11)
          have HX11 := Lib.hid (HX10.out.grown0 hg11)
          clear hg11 HZ10 HX10 HU10 HTR G10
          generalize totalE l = tt at *
          go_wp2_with (first
            | (refine wpList_runsE rfl (st_loadP rfl rfl (fun i u hu => HX11.out.cellsAt (grown_refl _ _) i u hu)) ?_; intro v81 hv81; obtain rfl : v81 = _ := hv81)
            | (refine wpList_runsE rfl (st_loadP rfl rfl (fun i u hu => HZ11.out.cellsAt (grown_refl _ _) i u hu)) ?_; intro v82 hv82; obtain rfl : v82 = _ := hv82)
            | (refine wpList_runsE rfl (st_eqP rfl rfl rfl) ?_; intro v83 hv83; obtain rfl : v83 = _ := hv83))
          refine (HAW.out _).mono ?_
          rintro e12 w12 ⟨rfl, hg12⟩
          go_wp2
          go_ret
          exact ⟨rfl, G11.out.trans hg12⟩
        · obtain rfl : z = (k : Int) := by omega
          have hkl : k < l.length := by rw [HN.out]; omega
          have HD := Lib.hid (find_drop (p := p) hkl)
          obtain ⟨ad, rfl, c0, c1, c2, c3, c4, c5, c6⟩ := (HV.out.grown0 (G4.out.trans HGW.out)).step hkl
          generalize l.getD k default = t at *
          have hq := bts_eq t.path p
          by_cases hp : t.path = p
          · rw [decide_eq_true hp] at hq
            rw [if_pos hp] at HD
            clear hq
            subst hp
            go_wp2_with (refine wpList_store_row _ rfl rfl _ _ 38 rfl w4.heap.size 38 _ (enC t) rfl rfl HZ.out rfl (enC_one _) (by kernel_rfl) ?_; intro w9 hr9 hg9; have HR9 := Lib.hid hr9; have HG9 := Lib.hid (HG.out.trans hg9); clear hr9 hg9)
            go_roundw
            case rel => exact ⟨k, (k : Int) - 1, by omega, by omega, by go_num, by rw [HD.out]; rfl, by rw [HD.out]; exact HR9.out, HG9.out⟩
            case measure =>
              simp only [intOf]
              omega
          · rw [decide_eq_false hp] at hq
            rw [if_neg hp] at HD
            have hq1 : ¬ (bts t.path).toList = (bts p).toList := fun e => hp (by rw [bts_list, bts_list] at e; exact e)
            go_wp2
            go_roundw
            case rel => exact ⟨k, (k : Int) - 1, by omega, by omega, by go_num, by rw [HD.out], by rw [HD.out]; exact HZ.out, HG.out⟩
            case measure =>
              simp only [intOf]
              omega
end Go.Proofs.YtiakkfcjdmecdaaDoor
