/-
  The statements' same over this program: are entries the document's?
-/
import Derived.Test.YtiakkfcjdmecdaaDoorEnGiven
import Derived.Test.YtiakkfcjdmecdaaDoorMMem
import Derived.Test.YtiakkfcjdmecdaaDoorIntOps
import Derived.Laws.StructEq
namespace Go.Proofs.YtiakkfcjdmecdaaDoor
set_option maxRecDepth 1000000
open Go.RowKit

def eqE (d e : En) : Bool := (d.path == e.path && d.kind == e.kind && d.mode == e.mode && d.time == e.time && d.to == e.to && d.beg == e.beg && d.size == e.size)
theorem eqE_iff (d e : En) : eqE d e = true ↔ d = e := by
  constructor
  · intro h
    simp only [eqE, Bool.and_eq_true, beq_iff_eq] at h
    obtain ⟨⟨⟨⟨⟨⟨h1, h2⟩, h3⟩, h4⟩, h5⟩, h6⟩, h7⟩ := h
    exact En.ext' h1 h2 h3 h4 h5 h6 h7
  · rintro rfl; simp [eqE]
theorem bts_list (l : List UInt8) : (bts l).toList = l := Lib.toList_data _
section
variable {o : Oper} {a : Act} {w : World}
theorem exE_neq {x y : Operand} {d e : En} (h : o.op = .binOp .neq 66 x y 66) (hx : a.eval x = enV d) (hy : a.eval y = enV e) :
    (execOp a.eval o).run Tryd.prog w = .ok (.value (.bool (!eqE d e))) w := by
  unfold execOp
  simp only [h, hx, hy]
  simp only [go_sem, enV, enC, eqE]
  simp [go_sem, bts_list]
  repeat' split
  all_goals simp_all
theorem st_neE {x y : Operand} {d e : En} (h : o.op = .binOp .neq 66 x y 66) (hx : Is (enV d) (a.eval x) w) (hy : Is (enV e) (a.eval y) w) : Runs (Is (.bool (!eqE d e))) o a w := ⟨_, exE_neq h hx hy, rfl⟩
theorem st_idxE {x y : Operand} {ad : Addr} {n c i : Nat} (h : o.op = .indexAddr 29 x y) (hx : Is (.slice (some ad) n c) (a.eval x) w) (hy : Is (.int .i64 (i : Int)) (a.eval y) w) (hi : i < n) : Runs (Is (.pointer (some (ad.add (i * 7))))) o a w := by
  have hx' : a.eval x = .slice (some ad) n c := hx
  have hy' : a.eval y = .int .i64 (i : Int) := hy
  have hs : (sizeOf 66).run Tryd.prog w = .ok 7 w := by kernel_rfl
  refine ⟨_, ?_, rfl⟩
  simp only [execOp, h, hx', hy']
  simp [go_sem, hs, hi]
theorem st_loadE {x : Operand} {ad : Addr} {e : En} (h : o.op = .load 66 x) (hx : Is (.pointer (some ad)) (a.eval x) w) (hc : ∀ i u, (enC e)[i]? = some u → w.cell? (ad.add i) = some u) : Runs (Is (enV e)) o a w := by
  have hx' : a.eval x = .pointer (some ad) := hx
  have hrun := run_loadEn 66 (.inr rfl) w ad e hc
  refine ⟨_, ?_, rfl⟩
  simp only [execOp, h, hx', Sem.run_bind, hrun, Result.andThen_ok, Sem.run_pure]
end
theorem RdE.at_ {w : World} {A : Option Addr} {n c k : Nat} {l : List En} (h : RdE w (.slice A n c) l) (hk : k < l.length) :
    ∃ ad, A = some ad ∧ ∀ i u, (enC (l.getD k default))[i]? = some u → w.cell? ((ad.add (k * 7)).add i) = some u := by
  obtain ⟨A', c', he, _, _, hc⟩ := h
  injection he with h1 h2 h3
  subst h1
  obtain ⟨ad, rfl, hcl⟩ := hc (by rintro rfl; simp at hk)
  exact ⟨ad, rfl, fun i u hu => by rw [add_add]; exact hcl k _ (by simp [List.getElem?_eq_getElem hk]) i u hu⟩
theorem cells_keep {w w' : World} {ad : Addr} {d : En} (h : ∀ i u, (enC d)[i]? = some u → w.cell? (ad.add i) = some u) (hg : w.grownBy w' none) : ∀ i u, (enC d)[i]? = some u → w'.cell? (ad.add i) = some u := fun i u hu => by
  have := h i u hu
  rw [← this]
  exact World.cell?_of_block (hg.block _ (World.block_lt_of_cell? w _ this) (by simp))

set_option maxHeartbeats 8000000 in
theorem same_any (A : Option Addr) (n c : Nat) (l : List En) (B : Option Addr) (n2 c2 : Nat) (m : List En) (w : World) (hr : RdE w (.slice A n c) l) (hr2 : RdE w (.slice B n2 c2) m) (hl : l.length ≤ 100000) :
    Calls Tryd.prog 17 #[.slice A n c, .slice B n2 c2] w (fun e w' => ∃ b : Bool, e = .returned (.bool b) ∧ (b = true ↔ l = m) ∧ w.grownBy w' none) := by
  have HGV := Lib.hid (given_any l _ w hr hl)
  have hln := hr2.len.1
  subst hln
  have HR2 := Lib.hid hr2
  clear hr hr2
  go_enter Tryd.func17, Tryd.ntmps17
  go_wp2_with fail
  refine HGV.out.mono ?_
  rintro e w1 ⟨v, rfl, hr1, hg⟩
  obtain ⟨A1, c1, rfl⟩ := hr1.form
  have HR1 := Lib.hid hr1
  have HR2' := Lib.hid (HR2.out.grown0 hg)
  have G1 := Lib.hid hg
  clear hr1 hg HGV HR2
  by_cases hlm : l.length = m.length
  · have e1 : ((l.length : Int) == (m.length : Int)) = true := beq_iff_eq.2 (by omega)
    have e2 : ((l.length : Int) != (m.length : Int)) = false := by rw [bne, e1]; rfl
    have HLM := Lib.hid hlm
    clear hlm
    go_wp2
    go_loopw [16] (fun i W => ∃ k : Nat, i = .int .i64 k ∧ k ≤ l.length ∧ l.take k = m.take k ∧ w1.grownBy W none) (fun i _ => l.length - (intOf i).toNat)
    case atStart => exact ⟨0, rfl, Nat.zero_le _, by simp, grown_refl _ _⟩
    case round =>
      obtain ⟨k, rfl, hk, ht, hg⟩ := hrel
      have HT := Lib.hid ht
      have HGR := Lib.hid hg
      have HGA := Lib.hid (World.grownBy.trans G1.out hg)
      clear ht hg
      by_cases h : k < l.length
      · have d0 : decide ((k : Int) < (l.length : Int)) = true := by simp; omega
        have HK := Lib.hid (And.intro h (show k < m.length by have := HLM.out; omega))
        obtain ⟨ad, rfl, hc1⟩ := (HR1.out.grown0 HGR.out).at_ h
        obtain ⟨ad2, rfl, hc2⟩ := (HR2'.out.grown0 HGR.out).at_ (show k < m.length by have := HLM.out; omega)
        have HC1 := Lib.hid (fun W (hW : wr.grownBy W none) => cells_keep hc1 hW)
        have HC2 := Lib.hid (fun W (hW : wr.grownBy W none) => cells_keep hc2 hW)
        have HN := Lib.hid (And.intro (takeE l k h) (takeE m k (show k < m.length by have := HLM.out; omega)))
        have HNE := Lib.hid (fun (hlm : l = m) => (show l.getD k default = m.getD k default by rw [hlm]))
        clear hc1 hc2
        generalize l.getD k default = d at *
        generalize m.getD k default = e at *
        go_wp2
        refine wp_region_walk3 9 [] dis_nil (by kernel_rfl) (by kernel_rfl) (by kernel_rfl) ?_
        simp only [List.take_succ_cons, List.take_zero, List.drop_succ_cons, List.drop_zero]
        refine Walk.val (G := Is (.slice (some ad) l.length c1)) (stays_is _ _) rfl rfl (fun a w hm hd => ⟨wanted_plain rfl, st_move rfl (by rw [hm.outer 5 (by kernel_rfl)]; rfl)⟩) ?_
        refine Walk.val (G := Is (.int .i64 (k : Int))) (stays_is _ _) rfl rfl (fun a w hm hd => ⟨wanted_plain rfl, st_move rfl (by rw [hm.outer 6 (by kernel_rfl)]; rfl)⟩) ?_
        refine Walk.val (G := Is (.pointer (some (ad.add (k * 7))))) (stays_is _ _) rfl rfl (fun a w hm hd => ⟨wanted_plain rfl, st_idxE rfl (hd.at_ 0 rfl rfl rfl rfl) (hd.at_ 1 rfl rfl rfl rfl) HK.out.1⟩) ?_
        refine Walk.val (G := Is (enV d)) (stays_is _ _) rfl rfl (fun a w hm hd => ⟨wanted_plain rfl, st_loadE rfl (hd.at_ 2 rfl rfl rfl rfl) (fun i u hu => HC1.out w (GrownX.none2 hm.grow) i u hu)⟩) ?_
        refine Walk.val (G := Is (.slice (some ad2) m.length c2)) (stays_is _ _) rfl rfl (fun a w hm hd => ⟨wanted_plain rfl, st_move rfl (by rw [hm.outer 1 (by kernel_rfl)]; rfl)⟩) ?_
        refine Walk.val (G := Is (.int .i64 (k : Int))) (stays_is _ _) rfl rfl (fun a w hm hd => ⟨wanted_plain rfl, st_move rfl (by rw [hm.outer 6 (by kernel_rfl)]; rfl)⟩) ?_
        refine Walk.val (G := Is (.pointer (some (ad2.add (k * 7))))) (stays_is _ _) rfl rfl (fun a w hm hd => ⟨wanted_plain rfl, st_idxE rfl (hd.at_ 4 rfl rfl rfl rfl) (hd.at_ 5 rfl rfl rfl rfl) HK.out.2⟩) ?_
        refine Walk.val (G := Is (enV e)) (stays_is _ _) rfl rfl (fun a w hm hd => ⟨wanted_plain rfl, st_loadE rfl (hd.at_ 6 rfl rfl rfl rfl) (fun i u hu => HC2.out w (GrownX.none2 hm.grow) i u hu)⟩) ?_
        refine Walk.val (G := Is (.bool (!eqE d e))) (stays_is _ _) rfl rfl (fun a w hm hd => ⟨wanted_plain rfl, st_neE rfl (hd.at_ 3 rfl rfl rfl rfl) (hd.at_ 7 rfl rfl rfl rfl)⟩) ?_
        intro a9 V9 hm9 hall
        have f27 : Is (.bool (!eqE d e)) (a9.eval (.tmp 27)) V9 := hall 8 _ _ rfl rfl
        have hfr := hm9.frame
        simp only [List.take_succ_cons, List.take_zero, List.filterMap_cons, List.filterMap_nil, List.foldl_cons, List.foldl_nil] at hfr
        have hgV9 := GrownX.none2 hm9.grow
        have f27 : a9.eval (.tmp 27) = _ := f27
        rw [f27] at hfr
        generalize a9.eval (.tmp 19) = e19 at hfr
        generalize a9.eval (.tmp 20) = e20 at hfr
        generalize a9.eval (.tmp 21) = e21 at hfr
        generalize a9.eval (.tmp 22) = e22 at hfr
        generalize a9.eval (.tmp 23) = e23 at hfr
        generalize a9.eval (.tmp 24) = e24 at hfr
        generalize a9.eval (.tmp 25) = e25 at hfr
        generalize a9.eval (.tmp 26) = e26 at hfr
        clear hall hm9
        unfold wpList
        rw [hfr]
        clear hfr
        go_simp
        cases hq : eqE d e
        · have HE := Lib.hid (show ¬ l = m from fun hx => by have := (eqE_iff d e).2 (HNE.out hx); rw [hq] at this; cases this)
          go_wp2
          go_ret
          exact ⟨false, rfl, by simp [HE.out], World.grownBy.trans HGA.out hgV9⟩
        · have HE := Lib.hid (show l.take (k + 1) = m.take (k + 1) by rw [HN.out.1, HN.out.2, HT.out, (eqE_iff d e).1 hq])
          go_wp2
          go_roundw
          case rel => exact ⟨k + 1, by go_num, HK.out.1, HE.out, World.grownBy.trans HGR.out hgV9⟩
          case measure =>
            have := HK.out
            simp [intOf]
            omega
      · have d0 : decide ((k : Int) < (l.length : Int)) = false := decide_eq_false (by omega)
        have HE := Lib.hid (show l = m by
          have := HT.out
          rwa [List.take_of_length_le (by omega), List.take_of_length_le (by have := HLM.out; omega)] at this)
        go_wp2
        go_ret
        exact ⟨true, rfl, by simp [HE.out], HGA.out⟩
  · have e1 : ((l.length : Int) == (m.length : Int)) = false := beq_eq_false_iff_ne.2 (by omega)
    have e2 : ((l.length : Int) != (m.length : Int)) = true := by rw [bne, e1]; rfl
    have HE := Lib.hid (show ¬ l = m from fun h => hlm (by rw [h]))
    go_wp2
    go_ret
    exact ⟨false, rfl, by simp [HE.out], G1.out⟩
end Go.Proofs.YtiakkfcjdmecdaaDoor
