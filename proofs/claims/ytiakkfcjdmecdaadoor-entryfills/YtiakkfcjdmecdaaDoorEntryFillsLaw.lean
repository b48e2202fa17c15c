/-
  EntryFills' walk (P13.2, P13.3), out of what Of, Fill and awake answer.
-/
import Derived.Test.YtiakkfcjdmecdaaDoorEnSlice
import Derived.Test.YtiakkfcjdmecdaaDoorEnFiles
namespace Go.Proofs.YtiakkfcjdmecdaaDoor
set_option maxRecDepth 1000000
open Go.RowKit

/-- What Fill answers. -/
def FillOut (l : List En) (d : List UInt8) (w : World) (e : Ending) (w' : World) : Prop :=
  ∃ u z, e = .returned (.tuple #[u, .int .i64 z]) ∧ w.grownBy w' none ∧ ((fineE l = true ∧ (d.length : Int) = totalE l ∧ z = 0 ∧ RdF w' u (fillF l d)) ∨ (¬ (fineE l = true ∧ (d.length : Int) = totalE l) ∧ z = 1 ∧ RdF w' u []))
def HasFill : Prop := ∀ v u l d w, RdE w v l → Rd w u (bytesV d) → Lens l 300 → Sizes l → l.length ≤ 20 → d.length ≤ 1000000 → Calls Tryd.prog 30 #[v, u] w (FillOut l d w)
theorem data_few {l : List Fl} (h : FewF l) (k : Nat) : (dataF (l.take k)).length ≤ 2400 := by
  have h1 := dataF_bound 200 (l.take k) (fun f hf => (h.2 f (List.mem_of_mem_take hf)).2.2)
  have h2 : (l.take k).length ≤ 12 := by have := h.1; rw [List.length_take]; omega
  have h3 : (l.take k).length * 200 ≤ 12 * 200 := Nat.mul_le_mul_right _ h2
  omega
theorem own_app13 {w : World} {base : Nat} {v : Value} {X Y : List UInt8} (h : w.ownsRow base 5 1 v (X.length + Y.length) (bytesV X ++ bytesV Y)) : w.ownsRow base 5 1 v (X ++ Y).length (bytesV (X ++ Y)) := by
  rwa [List.length_append, bytesV_app]

set_option maxHeartbeats 8000000 in
theorem entryFills_walk (haw : HasAwake) (hof : HasOf) (hfl : HasFill) (A : Option Addr) (n c : Nat) (l : List Fl) (B : Option Addr) (nb cb : Nat) (b : List UInt8) (w : World) (hv : RdF w (.slice A n c) l) (hb : Rd w (.slice B nb cb) (bytesV b)) :
    Calls Tryd.prog 7 #[.slice A n c, .slice B nb cb] w (Val (.bool true) w) := by
  have HFW := Lib.hid (few_any A n c l w hv)
  have hln := hv.len.1
  have hlb := hb.len.1
  rw [bytesV_len] at hlb
  subst hln hlb
  have HV := Lib.hid hv
  have HB := Lib.hid hb
  have HAW := Lib.hid haw
  clear hv hb haw
  cases hs : fewB l
  · rw [hs] at HFW
    go_enter Tryd.func7, Tryd.ntmps7
    go_wp2_with fail
    refine HFW.out.mono ?_
    rintro e0 w0 ⟨rfl, hg0⟩
    go_wp2_with fail
    refine (HAW.out _).mono ?_
    rintro e1 w1 ⟨rfl, hg1⟩
    go_wp2
    go_ret
    exact ⟨rfl, hg0.trans hg1⟩
  · rw [hs] at HFW
    have hfew : FewF l := fewB_len hs
    by_cases hbl : 100 < b.length
    · have d1 : decide ((100 : Int) < (b.length : Int)) = true := decide_eq_true (by omega)
      clear hof hfl hfew
      go_enter Tryd.func7, Tryd.ntmps7
      go_wp2_with fail
      refine HFW.out.mono ?_
      rintro e0 w0 ⟨rfl, hg0⟩
      go_wp2_with fail
      refine (HAW.out _).mono ?_
      rintro e1 w1 ⟨rfl, hg1⟩
      go_wp2
      go_ret
      exact ⟨rfl, hg0.trans hg1⟩
    · have d1 : decide ((100 : Int) < (b.length : Int)) = false := decide_eq_false (by omega)
      have HBL := Lib.hid (show b.length ≤ 100 by omega)
      obtain ⟨hm, h12⟩ := few_lens hfew
      have HOF := Lib.hid (fun v w' (h : RdF w' v l) => hof v l w' h hfew)
      have HDF := Lib.hid (fun k => data_few hfew k)
      have HFE := Lib.hid hfew
      clear hof hfew hs hbl
      go_enter Tryd.func7, Tryd.ntmps7
      go_wp2_with fail
      refine HFW.out.mono ?_
      rintro e0 w0 ⟨rfl, hg0⟩
      have G0 := Lib.hid hg0
      have HV0 := Lib.hid (HV.out.grown0 hg0)
      clear hg0
      go_wp2_with fail
      refine (HOF.out _ _ HV0.out).mono ?_
      rintro e1 w1 ⟨u, rfl, hg1, hr1⟩
      have G1 := Lib.hid (World.grownBy.trans G0.out hg1)
      have HV1 := Lib.hid (HV0.out.grown0 hg1)
      have HB1 := Lib.hid (HB.out.grown0 (World.grownBy.trans G0.out hg1))
      have HR1 := Lib.hid hr1
      clear hg1 hr1
      by_cases h0 : whyE (toldF 0 l) = 0
      · have hfi : fineE (toldF 0 l) = true := by rw [fine_told, h0]; rfl
        have hto : totalE (toldF 0 l) = ((dataF l).length : Int) := by rw [totalE, if_pos hfi, sizes_told]
        have HSZ : Sizes (toldF 0 l) := fun e he => by have := (why_zero h0).size e he; omega
        have HFL := Lib.hid (fun v u d w' (h : RdE w' v (toldF 0 l)) (k : Rd w' u (bytesV d)) (hd : d.length ≤ 1000000) => hfl v u (toldF 0 l) d w' h k hm HSZ (by omega) hd)
        have HFI := Lib.hid hfi
        have HTO := Lib.hid hto
        have HR := HR1.out
        rw [if_pos h0] at HR
        have HRE := Lib.hid HR
        rw [h0]
        clear HR HR1 HSZ hfi hto hfl hm h0
        obtain ⟨L, hL⟩ : ∃ L, l.length = L := ⟨_, rfl⟩
        have HLL := Lib.hid hL
        rw [hL] at HV1 ⊢
        clear hL
        have hLb : L ≤ 12 := by have := HFE.out.1; have := HLL.out; omega
        go_wp2
        go_loopw [7, 33] (fun s i W => ∃ k : Nat, k ≤ L ∧ i = .int .i64 k ∧ W.ownsRow w1.heap.size 5 1 s (dataF (l.take k)).length (bytesV (dataF (l.take k))) ∧ w1.grownBy W none) (fun _ i _ => L - (intOf i).toNat)
        case atStart => exact ⟨0, Nat.zero_le _, rfl, World.ownsRow_nil _ _ _ _, grown_refl _ _⟩
        case round =>
          obtain ⟨k, hk, rfl, ho, hg⟩ := hrel
          by_cases hlt : k < L
          · have hkl : k < l.length := by rw [HLL.out]; exact hlt
            obtain ⟨ad, rfl, A2, c2, hrd, x0, x1, x2, x3, x4, x5⟩ := (HV1.out.grown0 hg).step hkl
            have HO := Lib.hid ho
            have HG := Lib.hid hg
            have HND := Lib.hid (dataF_next l k hkl)
            have HDB := Lib.hid (HDF.out k)
            have HFD := Lib.hid (show (l.getD k default).data.length ≤ 200 from (HFE.out.2 _ (by simp [List.getElem?_eq_getElem hkl])).2.2)
            have HRD := Lib.hid hrd
            clear ho hg hrd
            generalize l.getD k default = f at *
            go_wp2_with (at_builtin; refine wpList_append_bytes _ rfl _ _ rfl w1.heap.size _ (dataF (l.take k)).length (bytesV (dataF (l.take k))) rfl (own_keep8 HO.out (grown_alloc (grown_refl _ none) _)) _ f.data rfl (HRD.out.grown0 (grown_alloc (grown_refl _ none) _)) (by have := HDB.out; have := HFD.out; omega) (by have := HG.out.size; simp; omega) ?_; intro v7 w7 ho7 hg7 hat7; have HO7 := Lib.hid (own_app13 ho7); have HG7 := Lib.hid hg7; clear ho7 hg7 hat7 x0 x1 x2 x3 x5)
            go_roundw
            case rel =>
              refine ⟨k + 1, by omega, by go_num, by rw [HND.out]; exact HO7.out, ?_⟩
              exact grown_new (grown_alloc HG.out _) HG7.out (fun r e => (HO.out.lt r e).1)
            case measure => simp only [intOf]; omega
          · have hkL : k = L := by omega
            subst hkL
            have hw : l.take k = l := by rw [← HLL.out, List.take_length]
            rw [hw] at ho
            have HG := Lib.hid hg
            have HDL := Lib.hid (show (dataF l).length ≤ 2400 by have := HDF.out k; rw [hw] at this; exact this)
            have hdr := Rd.of_own ho
            obtain ⟨A4, c4, rfl⟩ := hdr.form
            rw [bytesV_len] at hdr ⊢
            have HD := Lib.hid hdr
            have HRX := Lib.hid (HRE.out.grown0 hg)
            have HVX := Lib.hid (HV1.out.grown0 hg)
            have HBX := Lib.hid (HB1.out.grown0 hg)
            clear ho hg hw hdr
            go_wp2_with fail
            refine (HFL.out _ _ (dataF l) _ HRX.out HD.out (by have := HDL.out; omega)).mono ?_
            rintro e2 w2 ⟨u2, z2, rfl, hg2, ⟨_, _, hz2, hr2⟩ | ⟨hno, _, _⟩⟩
            · subst hz2
              have hft := fill_told l 0 []
              rw [List.append_nil] at hft
              rw [hft] at hr2
              have G2 := Lib.hid (World.grownBy.trans G1.out (World.grownBy.trans HG.out hg2))
              have HR2 := Lib.hid hr2
              have HRY := Lib.hid (HRX.out.grown0 hg2)
              have HVY := Lib.hid (HVX.out.grown0 hg2)
              have HDY := Lib.hid (HD.out.grown0 hg2)
              have HBY := Lib.hid (HBX.out.grown0 hg2)
              clear hg2 hr2 hft
              obtain ⟨A3, c3, rfl⟩ := HR2.out.form
              rw [HLL.out] at *
              go_wp2_with (first
                | (at_builtin; refine wpList_append_bytes _ rfl _ _ rfl w2.heap.size (.slice (some ⟨w2.heap.size, 0, none⟩) 0 0) 0 [] rfl (own_empty w2 w2.heap.size (Nat.le_refl _)) _ (dataF l) rfl (HDY.out.grown0 (grown_alloc (grown_refl _ none) _)) (by have := HDL.out; omega) (by simp) ?_; intro v7 w7 ho7 hg7 hat7; rw [Nat.zero_add, List.nil_append] at ho7; have HO7 := Lib.hid ho7; have HG7 := Lib.hid (grown_new (grown_alloc (grown_refl w2 none) _) hg7 (fun r e => by simp [Value.ownBlock] at e; omega)); clear ho7 hg7 hat7)
                | (at_builtin; refine wpList_append_bytes _ rfl _ _ rfl w2.heap.size _ (dataF l).length (bytesV (dataF l)) rfl HO7.out _ b rfl (HBY.out.grown0 HG7.out) (by have := HDL.out; have := HBL.out; omega) HG7.out.size ?_; intro v8 w8 ho8 hg8 hat8; have HO8 := Lib.hid (Rd.of_own (own_app13 ho8)); have HG8 := Lib.hid (grown_new HG7.out hg8 (fun r e => (HO7.out.lt r e).1)); clear ho8 hg8 hat8))
              refine (HFL.out _ _ (dataF l ++ b) _ (HRY.out.grown0 HG8.out) HO8.out (by have := HDL.out; have := HBL.out; rw [List.length_append]; omega)).mono ?_
              rintro e5 w5 ⟨u5, z5, rfl, hg5, hc5⟩
              have G5 := Lib.hid (World.grownBy.trans G2.out (World.grownBy.trans HG8.out hg5))
              have HK5 := Lib.hid (files_any A3 _ c3 l A _ c l w5 (HR2.out.grown0 (World.grownBy.trans HG8.out hg5)) (HVY.out.grown0 (World.grownBy.trans HG8.out hg5)))
              have hzz : z5 = if b.length = 0 then 0 else 1 := by
                rcases hc5 with ⟨_, hd, hz, _⟩ | ⟨hd, hz, _⟩
                · rw [hz, if_pos]
                  rw [HTO.out, List.length_append] at hd; omega
                · rw [hz, if_neg]
                  intro hb0
                  exact hd ⟨HFI.out, by rw [HTO.out, List.length_append]; omega⟩
              have HZZ := Lib.hid hzz
              clear hg5 hc5 hzz
              go_wp2_with fail
              refine HK5.out.mono ?_
              rintro e6 w6 ⟨bb, rfl, hbb, hg6⟩
              obtain rfl : bb = true := by simpa using hbb
              have G6 := Lib.hid (World.grownBy.trans G5.out hg6)
              clear hg6 hbb
              have hzz := HZZ.out
              by_cases hb0 : b.length = 0
              · rw [if_pos hb0] at hzz
                subst hzz
                have q1 : ((b.length : Int) == 0) = true := beq_iff_eq.2 (by omega)
                go_wp2_with fail
                refine (HAW.out _).mono ?_
                rintro e7 w7 ⟨rfl, hg7⟩
                go_wp2
                go_ret
                exact ⟨rfl, World.grownBy.trans G6.out hg7⟩
              · rw [if_neg hb0] at hzz
                subst hzz
                have q1 : ((b.length : Int) == 0) = false := beq_eq_false_iff_ne.2 (by omega)
                go_wp2_with fail
                refine (HAW.out _).mono ?_
                rintro e7 w7 ⟨rfl, hg7⟩
                go_wp2
                go_ret
                exact ⟨rfl, World.grownBy.trans G6.out hg7⟩
            · exact absurd ⟨HFI.out, HTO.out.symm⟩ hno
      · have e1 : (whyE (toldF 0 l) == 0) = false := beq_eq_false_iff_ne.2 h0
        have e2 : (whyE (toldF 0 l) != 0) = true := by rw [bne, e1]; rfl
        clear HR1 hfl hm h12 h0
        generalize whyE (toldF 0 l) = z at *
        go_wp2_with fail
        refine (HAW.out _).mono ?_
        rintro e6 w6 ⟨rfl, hg6⟩
        go_wp2
        go_ret
        exact ⟨rfl, World.grownBy.trans G1.out hg6⟩
end Go.Proofs.YtiakkfcjdmecdaaDoor
