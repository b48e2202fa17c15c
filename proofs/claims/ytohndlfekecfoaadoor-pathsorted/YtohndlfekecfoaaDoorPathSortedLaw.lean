/-
  The walk of PathSorted.
-/
import Derived.Test.YtohndlfekecfoaaDoorPtAwake
namespace Go.Proofs.YtohndlfekecfoaaDoor
set_option maxRecDepth 1000000
open Go.RowKit

theorem getD_le {L : List (List UInt8)} {k m : Nat} (h : ∀ j, j < k → (L.getD j []).length ≤ m) (hk : L.length ≤ k) : ∀ p ∈ L, p.length ≤ m := by
  intro p hp
  obtain ⟨j, hj, he⟩ := List.getElem_of_mem hp
  have := h j (by omega)
  rw [List.getD_eq_getElem?_getD, List.getElem?_eq_getElem hj, he] at this
  exact this
theorem le_next {L : List (List UInt8)} {k m : Nat} (h : ∀ j, j < k → (L.getD j []).length ≤ m) (hk : (L.getD k []).length ≤ m) : ∀ j, j < k + 1 → (L.getD j []).length ≤ m := by
  intro j hj
  by_cases e : j = k
  · rw [e]; exact hk
  · exact h j (by omega)

set_option maxHeartbeats 8000000 in
theorem pathSorted_walk (A : Option Addr) (n c : Nat) (l : List ByteArray) (w : World) (hr : Rd w (.slice A n c) (l.map fun z : ByteArray => Value.string z)) :
    Calls Tryd.prog 5 #[.slice A n c] w (Awake w) := by
  rw [strsV_of] at hr
  generalize (l.map fun z => z.data.toList) = L at *
  have hl := hr.len.1
  rw [strsV_len] at hl
  by_cases hn : n ≤ 40
  · have d0 : decide ((40 : Int) < (n : Int)) = false := decide_eq_false (by omega)
    subst hl
    have HR := Lib.hid hr
    clear hr
    go_enter Tryd.func5, Tryd.ntmps5
    go_wp2
    go_loopw [3, 12] (fun b i W => ∃ k : Nat, i = .int .i64 k ∧ k ≤ L.length ∧ b = .bool (sortedTo L k) ∧ (∀ j, j < k → (L.getD j []).length ≤ 100) ∧ w.grownBy W none) (fun _ i _ => L.length - (intOf i).toNat)
    case atStart => exact ⟨0, rfl, Nat.zero_le _, rfl, fun j hj => absurd hj (Nat.not_lt_zero j), grown_refl _ _⟩
    case round =>
      obtain ⟨k, rfl, hk, rfl, hall, hg⟩ := hrel
      have HA := Lib.hid hall
      have G0 := Lib.hid hg
      clear hall hg
      by_cases h : k < L.length
      · have HK := Lib.hid h
        obtain ⟨ad, u, hA, hu, hc⟩ := (HR.out.grown0 G0.out).cellAt (k := k) h
        obtain ⟨_, rfl⟩ := strs_at L hu
        clear hu
        have d1 : decide ((k : Int) < (L.length : Int)) = true := by simp; omega
        have hprev : k = 0 ∨ ∃ ad', A = some ad' ∧ wr.cell? (ad'.add (k - 1)) = some (.string (bts (L.getD (k - 1) []))) := by
          by_cases h0 : k = 0
          · exact .inl h0
          · refine .inr ?_
            subst hA
            refine ⟨_, rfl, ?_⟩
            obtain ⟨ad2, he, hcs⟩ := (HR.out.grown0 G0.out).cells (by intro e; have := congrArg List.length e; rw [strsV_len, List.length_nil] at this; omega)
            cases he
            exact hcs _ _ (strsV_at L (k - 1) (by omega))
        have HV := Lib.hid hprev
        have hqs : k ≠ 0 → (L.getD (k - 1) []).length ≤ 100 := fun h0 => HA.out (k - 1) (by omega)
        have HQ := Lib.hid hqs
        have HN := Lib.hid (sortedTo_next L k)
        have HT := Lib.hid (show stepOk L k = (rightB (L.getD k []) && (k == 0 || decide (cmpP (L.getD (k - 1) []) (L.getD k []) < 0))) from rfl)
        have HLN := Lib.hid (fun h2 => le_next (m := 100) HA.out (k := k) h2)
        clear hprev hqs h
        subst hA
        generalize L.getD k [] = p at *
        generalize L.getD (k - 1) [] = q at *
        by_cases hp : p.length ≤ 100
        · have hps : (bts p).size ≤ 100 := by rw [bts_size]; exact hp
          have d2 : decide ((100 : Int) < ((bts p).size : Int)) = false := decide_eq_false (by omega)
          have H1 := Lib.hid (fun w' => refRight_any (bts p) w' (by omega))
          have H2 := Lib.hid (fun h0 w' => refCompare_any (bts q) (bts p) w' (by rw [bts_size]; have := HQ.out h0; omega) (by omega))
          have HLE := Lib.hid (HLN.out hp)
          clear hp hps HLN
          cases hst : sortedTo L k
          · have HS := Lib.hid (show sortedTo L (k + 1) = false by rw [HN.out, hst]; rfl)
            go_wp2
            go_roundw
            case rel => exact ⟨k + 1, by go_num, HK.out, by rw [HS.out], HLE.out, G0.out⟩
            case measure =>
              have := HK.out
              simp [intOf]
              omega
          · skip
            go_wp2_with fail
            refine (H1.out _).mono ?_
            rintro e w1 ⟨rfl, hg⟩
            have G1 := Lib.hid (World.grownBy.trans G0.out hg)
            have G10 := Lib.hid hg
            clear hg
            rw [bts_data]
            cases hrp : rightB p
            · have HS := Lib.hid (show sortedTo L (k + 1) = false by rw [HN.out, HT.out, hrp, hst]; rfl)
              go_wp2
              go_roundw
              case rel => exact ⟨k + 1, by go_num, HK.out, by rw [HS.out], HLE.out, G1.out⟩
              case measure =>
                have := HK.out
                simp [intOf]
                omega
            · by_cases h0 : k = 0
              · have HS := Lib.hid (show sortedTo L (k + 1) = true by rw [HN.out, HT.out, hrp, hst, h0]; rfl)
                have e0 : ((k : Int) == 0) = true := by rw [h0]; rfl
                clear HV
                subst h0
                go_wp2
                go_roundw
                case rel => exact ⟨1, rfl, HK.out, by rw [HS.out], HLE.out, G1.out⟩
                case measure =>
                  have := HK.out
                  simp [intOf]
                  omega
              · obtain ⟨ad', he, hcell⟩ := HV.out.resolve_left h0
                cases he
                have e0 : ((k : Int) == 0) = false := beq_eq_false_iff_ne.2 (by omega)
                have c3 : ((k : Int) - 1) = ((k - 1 : Nat) : Int) := by omega
                have hcell2 : w1.cell? (ad.add (k - 1)) = some (.string (bts q)) := by
                  rw [← hcell]
                  exact World.cell?_of_block (G10.out.block _ (World.block_lt_of_cell? _ _ hcell) (by simp))
                clear hcell hc
                have H3 := Lib.hid (fun w' => H2.out h0 w')
                have h0' : (k == 0) = false := beq_eq_false_iff_ne.2 h0
                go_wp2_with fail
                refine (H3.out _).mono ?_
                rintro e w2 ⟨rfl, hg⟩
                have G2 := Lib.hid (World.grownBy.trans G1.out hg)
                clear hg H3 H2
                rw [bts_data, bts_data]
                generalize cmpP q p = z at *
                by_cases hz : z < 0
                · have dz : decide (z < 0) = true := decide_eq_true hz
                  have HS := Lib.hid (show sortedTo L (k + 1) = true by rw [HN.out, HT.out, hrp, hst, h0', dz]; rfl)
                  clear h0' c3 hz h0
                  go_wp2
                  go_roundw
                  case rel => exact ⟨k + 1, by go_num, HK.out, by rw [HS.out], HLE.out, G2.out⟩
                  case measure =>
                    have := HK.out
                    simp [intOf]
                    omega
                · have dz : decide (z < 0) = false := decide_eq_false hz
                  have HS := Lib.hid (show sortedTo L (k + 1) = false by rw [HN.out, HT.out, hrp, hst, h0', dz]; rfl)
                  clear h0' c3 hz h0
                  go_wp2
                  go_roundw
                  case rel => exact ⟨k + 1, by go_num, HK.out, by rw [HS.out], HLE.out, G2.out⟩
                  case measure =>
                    have := HK.out
                    simp [intOf]
                    omega
        · have hps : ¬ (bts p).size ≤ 100 := by rw [bts_size]; exact hp
          have d2 : decide ((100 : Int) < ((bts p).size : Int)) = true := decide_eq_true (by omega)
          clear hp hps HLN
          go_wp2_with fail
          refine (awake_any _).mono ?_
          rintro e w1 ⟨rfl, hg⟩
          have G1 := Lib.hid (World.grownBy.trans G0.out hg)
          clear hg
          go_wp2
          go_ret
          exact ⟨rfl, G1.out⟩
      · have d1 : decide ((k : Int) < (L.length : Int)) = false := by simp; omega
        have hkl : k = L.length := by omega
        have H1 := Lib.hid (fun w' (h : Rd w' (.slice A L.length c) (strsV L)) => sorted_any _ L w' h (by omega) (fun p hp => by have := getD_le HA.out (by omega) p hp; omega))
        have HS := Lib.hid (show sortedTo L k = sortedB L by rw [hkl]; rfl)
        have HR0 := Lib.hid (HR.out.grown0 G0.out)
        go_wp2_with fail
        refine (H1.out _ HR0.out).mono ?_
        rintro e w1 ⟨rfl, hg⟩
        have G1 := Lib.hid (World.grownBy.trans G0.out hg)
        clear hg
        rw [HS.out]
        generalize sortedB L = b at *
        cases b
        all_goals
          go_wp2_with fail
          refine (awake_any _).mono ?_
          rintro e w2 ⟨rfl, hg⟩
          have G2 := Lib.hid (World.grownBy.trans G1.out hg)
          clear hg
          go_wp2
          go_ret
          exact ⟨rfl, G2.out⟩
  · have d0 : decide ((40 : Int) < (n : Int)) = true := decide_eq_true (by omega)
    have HW := Lib.hid (awake_any w)
    go_enter Tryd.func5, Tryd.ntmps5
    go_wp2_with fail
    refine HW.out.mono ?_
    rintro e w1 ⟨rfl, hg⟩
    have HG := Lib.hid hg
    clear hg HW
    go_wp2
    go_ret
    exact ⟨rfl, HG.out⟩
end Go.Proofs.YtohndlfekecfoaaDoor
