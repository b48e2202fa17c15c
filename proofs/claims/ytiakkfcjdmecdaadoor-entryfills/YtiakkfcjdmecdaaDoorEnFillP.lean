/-
  entry.Fill over this program.
-/
import Derived.Test.YtiakkfcjdmecdaaDoorEnFlRow
import Derived.Test.YtiakkfcjdmecdaaDoorEnWin
import Derived.Test.YtiakkfcjdmecdaaDoorEnTotalP
namespace Go.Proofs.YtiakkfcjdmecdaaDoor
set_option maxRecDepth 1000000
open Go.RowKit

section
variable {o : Oper} {a : Act} {w : World}
theorem st_fieldF {x : Operand} {p : Addr} (k : Nat) (hk : 0 < k ∧ k < 7) (h : o.op = .fieldAddr 38 x k) (hx : Is (.pointer (some p)) (a.eval x) w) : Runs (Is (.pointer (some ⟨p.block, p.off + k, none⟩))) o a w := by
  have hx' : a.eval x = .pointer (some p) := hx
  obtain ⟨h1, h2⟩ := hk
  refine ⟨_, ?_, rfl⟩
  simp only [execOp, h, hx']
  obtain rfl | rfl | rfl | rfl | rfl | rfl : k = 1 ∨ k = 2 ∨ k = 3 ∨ k = 4 ∨ k = 5 ∨ k = 6 := by omega
  all_goals simp [go_sem]
end
def OneS (X : List UInt8) (v : Value) (W : World) : Prop := ∃ g u, v = .slice (some ⟨g, 0, none⟩) 1 1 ∧ Row W g 45 [u] ∧ Rd W u (bytesV X)
theorem stays_OneS (X : List UInt8) (j : Nat) : StaysBut [] j (OneS X) := fun _ _ _ _ _ ⟨g, u, h1, h2, h3⟩ hg => ⟨g, u, h1, h2.grown0 hg, h3.grown0 hg⟩
def NewB (X : List UInt8) (n : Nat) (v : Value) (W : World) : Prop := Rd W v (bytesV X) ∧ ∀ b, v.ownBlock = some b → n ≤ b ∧ b < W.heap.size
theorem NewB.grow {X : List UInt8} {n : Nat} {v : Value} {W W' : World} (h : NewB X n v W) (hg : W.grownBy W' none) : NewB X n v W' := ⟨h.1.grown0 hg, fun b hb => ⟨(h.2 b hb).1, Nat.lt_of_lt_of_le (h.2 b hb).2 hg.size⟩⟩
theorem stays_NewB (X : List UInt8) (n : Nat) (j : Nat) : StaysBut [] j (NewB X n) := fun _ _ _ _ _ h hg => h.grow hg
theorem concat_one (g : Nat) (u : Value) (X : List UInt8) (w : World) (n : Nat) (h2 : Row w g 45 [u]) (h3 : Rd w u (bytesV X)) (hl : X.length ≤ 1000000000) (hn : n ≤ w.heap.size) :
    Calls Tryd.prog 57 #[.slice (some ⟨g, 0, none⟩) 1 1] w (fun e w' => ∃ v, e = .returned v ∧ w.grownBy w' none ∧ NewB X n v w') := by
  refine (concat_own g [u] [X] w h2 rfl ?_ (by simp; omega) (by simp)).mono ?_
  · intro k v l hv hx
    rcases k with _ | k
    · simp at hv hx; subst hv hx; exact h3
    · simp at hv
  · rintro e w' ⟨v, rfl, ho, hg⟩
    refine ⟨v, rfl, hg, ?_, fun b hb => ?_⟩
    · have := Rd.of_own ho
      simpa using this
    · have := ho.lt b hb; omega
set_option maxRecDepth 100000 in
set_option maxHeartbeats 8000000 in
theorem fill_any (v u : Value) (l : List En) (d : List UInt8) (m : Nat) (w : World) (hr : RdE w v l) (hu : Rd w u (bytesV d)) (hm : Lens l m) (hmb : m < 1000000000) (hnb : l.length ≤ 1000000) (hdl : d.length ≤ 1000000000) :
    Calls Tryd.prog 30 #[v, u] w (FillOut l d w) := by
  obtain ⟨A, c, rfl⟩ := hr.form
  have HF := Lib.hid (fine_any _ m l w hr hm hmb)
  have HT := Lib.hid (fun W (h : RdE W (.slice A l.length c) l) => total_any _ m l W h hm hmb hnb)
  obtain ⟨n, hn⟩ : ∃ n, l.length = n := ⟨_, rfl⟩
  have HN := Lib.hid hn
  have HR := Lib.hid hr
  obtain ⟨B, cb, rfl⟩ := hu.form
  rw [bytesV_len] at hu ⊢
  have HDL := Lib.hid hdl
  obtain ⟨L, hL⟩ : ∃ L, d.length = L := ⟨_, rfl⟩
  have HLL := Lib.hid hL
  rw [hL] at hu HDL ⊢
  have HU := Lib.hid hu
  rw [hn] at HF HT HR ⊢
  have HNB := Lib.hid hnb
  clear hr hm hmb hn hu hdl hL hnb
  cases hf : fineE l
  · rw [hf] at HF
    go_enter Tryd.func30, Tryd.ntmps30
    go_wp2_with fail
    refine HF.out.mono ?_
    rintro e1 w1 ⟨rfl, hg⟩
    have HG := Lib.hid hg
    clear hg HF HT
    go_wp2
    exact bodyPost_ret (results_tmp2 rfl _ _ _) rfl ⟨_, _, rfl, HG.out, .inr ⟨fun h => by rw [hf] at h; exact Bool.noConfusion h.1, rfl, RdF.nil _⟩⟩
  · rw [hf] at HF
    have HFN := Lib.hid hf
    clear hf
    have HTE := Lib.hid (show totalE l = totalE l from rfl)
    obtain ⟨T, hT⟩ : ∃ T, totalE l = T := ⟨_, rfl⟩
    have HTT := Lib.hid hT
    rw [hT] at HT
    clear hT HTE
    by_cases hLT : (L : Int) = T
    · have q0 : ((L : Int) == T) = true := beq_iff_eq.2 hLT
      have q1 : ((L : Int) != T) = false := by rw [bne, q0]; rfl
      have HLT := Lib.hid hLT
      clear hLT
      go_enter Tryd.func30, Tryd.ntmps30
      go_wp2_with fail
      refine HF.out.mono ?_
      rintro e1 w1 ⟨rfl, hg⟩
      have HG := Lib.hid hg
      have HR1 := Lib.hid (HR.out.grown0 hg)
      clear hg HF
      go_wp2_with fail
      refine (HT.out _ HR1.out).mono ?_
      rintro e2 w2 ⟨rfl, hg⟩
      have HG2 := Lib.hid (HG.out.trans hg)
      clear hg HT HR1 HG
      go_wp2
      go_loopw [6, 22] (fun s i W => ∃ (k : Nat) (P : List (Fl × Value)), k ≤ n ∧ i = .int .i64 k ∧ P.length = k ∧ P.map Prod.fst = fillF (l.take k) d ∧ Fld w W s P) (fun _ i _ => n - (intOf i).toNat)
      case atStart => exact ⟨0, [], Nat.zero_le _, rfl, rfl, by simp [fillF], World.ownsRow_nil _ _ _ _, fun p hp => by simp at hp, HG2.out⟩
      case round =>
        obtain ⟨k, P, hk, rfl, hPl, hP, hFl⟩ := hrel
        have HP := Lib.hid hP
        have HPL := Lib.hid hPl
        have HFL := Lib.hid hFl
        clear hPl hP hFl
        by_cases hlt : k < n
        · have d0 : decide ((k : Int) < (n : Int)) = true := by simp; omega
          have hnn := HNB.out
          rw [HN.out] at hnn
          have hkl : k < l.length := by rw [HN.out]; exact hlt
          obtain ⟨ad, rfl, c0, c1, c2, c3, c4, c5, c6⟩ := (HR.out.grown0 HFL.out.grown).step hkl
          have hsz := fun e he => ((fine_good HFN.out).1.size e he).1
          have hX := fillF_next l d k hkl hsz
          have hen := fine_ends HFN.out hkl
          have hbe : (l.getD k default).beg = sizesE (l.take k) := by
            have := (fine_good HFN.out).2
            rw [begsTo, List.all_eq_true] at this
            exact beq_iff_eq.1 (this k (List.mem_range.2 hkl))
          have hnx := sizesE_next l k hkl
          have hle := sizes_take hsz (k + 1)
          have htt : totalE l = sizesE l := by rw [totalE, HFN.out]; rfl
          have hlim : (l.getD k default).beg + (l.getD k default).size ≤ (L : Int) := by
            have := HTT.out; have := HLT.out; omega
          rw [← hbe] at hX
          generalize l.getD k default = t at *
          obtain ⟨i, hi⟩ := Int.eq_ofNat_of_zero_le hen.1
          obtain ⟨sz, hz⟩ := Int.eq_ofNat_of_zero_le hen.2.2.1
          have HEN := Lib.hid (fun w => end_any t w ⟨by omega, by omega⟩)
          have HI := Lib.hid (show t.beg = (i : Int) ∧ t.beg + t.size = ((i + sz : Nat) : Int) ∧ i ≤ i + sz ∧ i + sz ≤ d.length from ⟨hi, by omega, by omega, by rw [HLL.out]; omega⟩)
          obtain ⟨X, hXe⟩ : ∃ X, (d.drop i).take (i + sz - i) = X := ⟨_, rfl⟩
          have HXL := Lib.hid (show X.length ≤ 1000000000 by rw [← hXe, List.length_take, List.length_drop]; have := HDL.out; have := HLL.out; omega)
          have HNX : Hid (fillF (l.take (k + 1)) d = fillF (l.take k) d ++ [⟨t.path, t.kind, t.mode, t.time, X, t.to⟩]) := Lib.hid (by rw [hX, fileE, ← hXe, hi, hz]; simp)
          have HX := Lib.hid hXe
          have HD := Lib.hid (HU.out.grown0 HFL.out.grown)
          clear hsz hX hen hbe hnx hle htt hlim hi hz hXe
          go_wp2
          have hE : Row (wr.alloc (.cells (enC t).toArray 38)) wr.heap.size 38 (enC t) := Row.new _ _ _
          have hG6 : wr.grownBy (wr.alloc (.cells (enC t).toArray 38)) none := grown_alloc (grown_refl _ _) _
          have hD6 := HD.out.grown0 hG6
          show Code.wp _ _ _ _ (wr.alloc (.cells (enC t).toArray 38))
          generalize (wr.alloc (.cells (enC t).toArray 38)) = W6 at *
          have HE := Lib.hid hE
          have HG6 := Lib.hid hG6
          have HD6 := Lib.hid hD6
          clear hE hG6 hD6 HD c0 c1 c2 c3 c4 c5 c6
          refine wp_region_walk3 9 [] dis_nil (by kernel_rfl) (by kernel_rfl) (by kernel_rfl) ?_
          simp only [List.take_succ_cons, List.take_zero, List.drop_succ_cons, List.drop_zero]
          refine Walk.val (G := IsB d) (stays_B13 _ _) rfl rfl (fun a w hm hd => ⟨wanted_plain rfl, st_move (G := IsB d) rfl (show Rd w (a.eval (.tmp 1)) (bytesV d) by rw [hm.outer 1 (by kernel_rfl)]; exact HD6.out.grown0 (GrownX.none2 hm.grow))⟩) ?_
          refine Walk.val (G := Is (.pointer (some ⟨wr.heap.size, 5, none⟩))) (stays_is _ _) rfl rfl (fun a w hm hd => ⟨wanted_plain rfl, st_fieldF (p := ⟨wr.heap.size, 0, none⟩) 5 (by decide) rfl (by rw [hm.outer 8 (by kernel_rfl)]; rfl)⟩) ?_
          refine Walk.val (G := Is (.int .i64 t.beg)) (stays_is _ _) rfl rfl (fun a w hm hd => ⟨wanted_plain rfl, st_cell rfl (fun _ => by kernel_rfl) (hd.at_ 1 rfl rfl rfl rfl) ((HE.out.grown0 (GrownX.none2 hm.grow)).cell (j := 5) rfl)⟩) ?_
          refine Walk.val (G := Is (enV t)) (stays_is _ _) rfl rfl (fun a w hm hd => ⟨wanted_plain rfl, st_loadP rfl (by rw [hm.outer 8 (by kernel_rfl)]; rfl) (fun i u hu => HE.out.cellsAt (GrownX.none2 hm.grow) i u hu)⟩) ?_
          refine Walk.call (G := Is (.int .i64 (t.beg + t.size))) (stays_is _ _) rfl 43 rfl (fun a w hm ha hd => ⟨wanted_plain rfl, _, ex_call1 Tryd.func43 (by kernel_rfl) (by kernel_rfl) rfl, by rw [show a.eval (.tmp 29) = _ from (hd.at_ 3 rfl rfl rfl rfl)]; exact Val.made7 (HEN.out w)⟩) ?_
          refine Walk.val (G := IsB X) (stays_B13 _ _) rfl rfl (fun a w hm hd => ⟨wanted_plain rfl, by rw [← HX.out]; exact st_cut i (i + sz) rfl (hd.at_ 0 rfl rfl rfl rfl) (hd.at_ 2 rfl rfl rfl rfl) (hd.at_ 4 rfl rfl rfl rfl) HI.out.1 HI.out.2.1 HI.out.2.2.1 HI.out.2.2.2⟩) ?_
          refine Walk.makeF (G := OneS X) (stays_OneS _ _) rfl rfl (fun a w hm _ hd => ⟨wanted_plain rfl, by
            have h1 : IsB X (a.eval (.tmp 31)) w := hd.at_ 5 rfl rfl rfl rfl
            obtain ⟨Au, cu, hu⟩ := Rd.form h1
            exact ⟨_, _, ex_build1S rfl rfl hu, grown_alloc (grown_refl _ _) _, w.heap.size, _, rfl, Row.new w _ [_], Rd.grown0 h1 (grown_alloc (grown_refl _ none) _)⟩⟩) ?_
          refine Walk.call (G := NewB X W6.heap.size) (stays_NewB _ _ _) rfl 57 rfl (fun a w hm ha hd => ⟨wanted_plain rfl, _, ex_call1 Tryd.func57 (by kernel_rfl) (by kernel_rfl) rfl, by
            obtain ⟨g, u, h1, h2, h3⟩ := hd.at_ (G := OneS X) 6 rfl rfl rfl rfl
            have h1' : a.eval (.tmp 32) = _ := h1
            rw [h1']
            exact concat_one g u X w W6.heap.size h2 h3 HXL.out (GrownX.none2 hm.grow).size⟩) ?_
          refine Walk.val (G := NewB X W6.heap.size) (stays_NewB _ _ _) rfl rfl (fun a w hm hd => ⟨wanted_plain rfl, st_assign rfl (hd.at_ 7 rfl rfl rfl rfl)⟩) ?_
          intro a9 V9 hm9 hall
          have f9 : NewB X W6.heap.size (a9.eval (.tmp 9)) V9 := hall 8 _ _ rfl rfl
          have hfr := hm9.frame
          simp only [List.take_succ_cons, List.take_zero, List.filterMap_cons, List.filterMap_nil, List.foldl_cons, List.foldl_nil] at hfr
          have hgV9 := GrownX.none2 hm9.grow
          generalize a9.eval (.tmp 9) = e9 at hfr f9
          generalize a9.eval (.tmp 26) = e26 at hfr
          generalize a9.eval (.tmp 27) = e27 at hfr
          generalize a9.eval (.tmp 28) = e28 at hfr
          generalize a9.eval (.tmp 29) = e29 at hfr
          generalize a9.eval (.tmp 30) = e30 at hfr
          generalize a9.eval (.tmp 31) = e31 at hfr
          generalize a9.eval (.tmp 32) = e32 at hfr
          generalize a9.eval (.tmp 33) = e33 at hfr
          clear hall hm9
          unfold wpList
          rw [hfr]
          clear hfr
          go_simp
          have HE9 := Lib.hid (HE.out.grown0 hgV9)
          have HF9 := Lib.hid (HFL.out.grow (HG6.out.trans hgV9))
          have HB9 : Hid (∀ b, e9.ownBlock = some b → b < V9.heap.size ∧ u6.ownBlock ≠ some b) := Lib.hid (fun b hb => ⟨(f9.2 b hb).2, fun e => by
            have := (HFL.out.own.lt b e).2
            have := HG6.out.size
            have := (f9.2 b hb).1
            omega⟩)
          have HR9 := Lib.hid f9.1
          obtain ⟨A9, c9, rfl⟩ := f9.1.form
          have c0 := HE9.out.cell (j := 0) rfl
          have c1 := HE9.out.cell (j := 1) rfl
          have c2 := HE9.out.cell (j := 2) rfl
          have c3 := HE9.out.cell (j := 3) rfl
          have c4 := HE9.out.cell (j := 4) rfl
          clear f9 hgV9 HFL HG6 HE HD6
          generalize (bytesV X).length = n9 at *
          go_wp2_with (first
            | (refine wpList_buildFl rfl _ rfl ⟨t.path, t.kind, t.mode, t.time, X, t.to⟩ (.slice A9 n9 c9) rfl ?_)
            | (at_builtin; refine wpList_appFl rfl _ _ rfl w.heap.size _ P.length (fcs P) rfl (HF9.out.grow (grown_alloc (grown_refl _ _) _)).own _ ⟨t.path, t.kind, t.mode, t.time, X, t.to⟩ A9 n9 c9 rfl (Row.new _ _ _) (by have := HPL.out; omega) (HF9.out.grow (grown_alloc (grown_refl _ _) _)).grown.size ?_; intro g' c' w7 ho7 hg7 hat7; have HF7 := Lib.hid ((HF9.out.grow (grown_alloc (grown_refl _ _) (.cells (flC ⟨t.path, t.kind, t.mode, t.time, X, t.to⟩ (.slice A9 n9 c9)).toArray 52))).next (f := ⟨t.path, t.kind, t.mode, t.time, X, t.to⟩) (HR9.out.grown0 (grown_alloc (grown_refl _ none) _)) (fun b hb => ⟨Nat.lt_of_lt_of_le (HB9.out b hb).1 (by simp), (HB9.out b hb).2⟩) ho7 hg7 (by rcases hat7 with h | h; exact .inl h; exact .inr (by rw [h]; rfl))); clear ho7 hg7 hat7))
          have hpl := HPL.out
          rw [hpl]
          go_roundw
          case rel =>
            refine ⟨k + 1, P ++ [(⟨t.path, t.kind, t.mode, t.time, X, t.to⟩, .slice A9 n9 c9)], by omega, by go_num, by rw [List.length_append, HPL.out]; rfl, ?_, by have h := HF7.out; rw [HPL.out] at h; exact h⟩
            rw [HNX.out, ← HP.out, List.map_append]
            rfl
          case measure => simp only [intOf]; omega

        · have hkn : k = n := by omega
          subst hkn
          have d0 : decide ((k : Int) < (k : Int)) = false := decide_eq_false (by omega)
          have hw : l.take k = l := by rw [← HN.out, List.take_length]
          have hrd := HFL.out.rd
          rw [HP.out, hw] at hrd
          have HRD := Lib.hid hrd
          clear hw hrd
          go_wp2
          exact bodyPost_ret (results_tmp2 rfl _ _ _) rfl ⟨_, _, rfl, HFL.out.grown, .inl ⟨HFN.out, by rw [HLL.out, HTT.out]; exact HLT.out, rfl, HRD.out⟩⟩
    · have q0 : ((L : Int) == T) = false := beq_eq_false_iff_ne.2 hLT
      have q1 : ((L : Int) != T) = true := by rw [bne, q0]; rfl
      have HLT := Lib.hid hLT
      clear hLT
      go_enter Tryd.func30, Tryd.ntmps30
      go_wp2_with fail
      refine HF.out.mono ?_
      rintro e1 w1 ⟨rfl, hg⟩
      have HG := Lib.hid hg
      have HR1 := Lib.hid (HR.out.grown0 hg)
      clear hg HF
      go_wp2_with fail
      refine (HT.out _ HR1.out).mono ?_
      rintro e2 w2 ⟨rfl, hg⟩
      have HG2 := Lib.hid (HG.out.trans hg)
      clear hg HT HR1 HG
      go_wp2
      exact bodyPost_ret (results_tmp2 rfl _ _ _) rfl ⟨_, _, rfl, HG2.out, .inr ⟨fun h => HLT.out (by rw [← HLL.out, ← HTT.out]; exact h.2), rfl, RdF.nil _⟩⟩
theorem has_fill : HasFill := fun v u l d w hr hu hm _ hl hd => fill_any v u l d 300 w hr hu hm (by decide) (by omega) (by omega)
end Go.Proofs.YtiakkfcjdmecdaaDoor
