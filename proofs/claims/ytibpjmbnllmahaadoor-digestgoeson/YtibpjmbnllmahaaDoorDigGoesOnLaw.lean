/-
  The walk of the law DigestGoesOn.
-/
import Derived.Test.YtibpjmbnllmahaaDoorDigStepOps
import Derived.Test.YtibpjmbnllmahaaDoorDigStepsLaw
namespace Go.Proofs.YtibpjmbnllmahaaDoor
open Go.RowKit

section
variable {o : Oper} {a : Act} {w : World}
theorem ex_add64 {x : Operand} {j : Nat} (h : o.op = .binOp .add 3 x (.const (.int .i64 64)) 3) (hx : Is (.int .i64 (64 * (j : Int))) (a.eval x) w) (hj : 64 * j ≤ 1000000000000) : (execOp a.eval o).run Tryd.prog w = .ok (.value (.int .i64 (64 * (j : Int) + 64))) w := by
  have hx' : a.eval x = .int .i64 (64 * (j : Int)) := hx
  have hc : a.eval (.const (.int .i64 64)) = .int .i64 64 := rfl
  have hw : IntKind.i64.wrap (64 * (j : Int) + 64) = 64 * (j : Int) + 64 := by rw [IntKind.wrap_i64]; omega
  simp only [execOp, h, hx', hc]
  simp [go_sem, hw]
theorem ex_slice2' {x y z : Operand} {ad : Addr} {n c j : Nat} (h : o.op = .slice 22 x (some y) (some z) none) (hx : a.eval x = .slice (some ad) n c) (hy : a.eval y = .int .i64 (64 * (j : Int))) (hz : a.eval z = .int .i64 (64 * (j : Int) + 64)) (hjc : 64 * j + 64 ≤ c) :
    (execOp a.eval o).run Tryd.prog w = .ok (.value (.slice (some (ad.add (64 * j))) 64 (c - 64 * j))) w := by
  have := ex_slice2 (o := o) (a := a) (w := w) (i := 64 * j) (j := 64 * j + 64) h hx (by rw [hy]; congr 1) (by rw [hz]; congr 1) (by omega) hjc
  rw [show 64 * j + 64 - 64 * j = 64 by omega] at this
  exact this
end
theorem runB_step2 (s : List W32) (M : List UInt8) (k : Nat) (h : 64 * k + 64 ≤ M.length) : runB s (M.take (64 * (k + 1))) = blk (runB s (M.take (64 * k))) ((M.drop (64 * k)).take 64) := by
  have e : M.take (64 * (k + 1)) = M.take (64 * k) ++ (M.drop (64 * k)).take 64 := by rw [show 64 * (k + 1) = 64 * k + 64 by omega, List.take_add]
  rw [e, runB_append _ _ _ (by rw [List.length_take]; omega), runB_one _ _ (by rw [List.length_take, List.length_drop]; omega)]
theorem of_two (v1 v2 : Value) (l1 l2 : List UInt8) (w : World) (t : TypeId) (hT : Tab w) (hr1 : Rd w v1 (bytesV l1)) (hr2 : Rd w v2 (bytesV l2)) (hlen : (l1 ++ l2).length ≤ 100000000000) :
    Calls Tryd.prog 10 #[.slice (some ⟨w.heap.size, 0, none⟩) 2 2] (w.alloc (.cells #[v1, v2] t)) (Val (.agg (bytesV (sha (l1 ++ l2))).toArray) (w.alloc (.cells #[v1, v2] t))) := by
  have h := of_any _ [v1, v2] [l1, l2] _ (hT.alloc (.cells #[v1, v2] t)) (hT.alloc (.cells #[v1, v2] t)).pos (Rd.new w [v1, v2] t (0, 0) 2 (Nat.le_refl _) (by decide)) (Parts.cons (hr1.alloc _) (Parts.cons (hr2.alloc _) (Parts.nil _))) (by simpa using hlen)
  simpa using h
/-- A block of a row that a slice reads. -/
theorem Rd.block {w : World} {ad : Addr} {n c : Nat} {M : List UInt8} (h : Rd w (.slice (some ad) n c) (bytesV M)) (j : Nat) : ∀ i u, (bytesV ((M.drop (64 * j)).take 64))[i]? = some u → w.cell? ((ad.add (64 * j)).add i) = some u := fun i u hi => by
  have hne : bytesV M ≠ [] := by
    intro e
    have : M = [] := by simpa [bytesV] using e
    rw [this] at hi
    simp [bytesV] at hi
  obtain ⟨ad', he, hc⟩ := h.cells hne
  cases he
  rw [add_add]
  refine hc _ u ?_
  simp only [bytesV, List.map_take, List.getElem?_take] at hi
  split at hi
  · rw [List.map_drop, List.getElem?_drop] at hi
    exact hi
  · cases hi

set_option maxHeartbeats 4000000 in
theorem digestGoesOn_walk (A : Option Addr) (n c : Nat) (l : List UInt8) (A2 : Option Addr) (n2 c2 : Nat) (l2 : List UInt8) (w : World) (hT : Tab w) (hr : Rd w (.slice A n c) (bytesV l)) (hr2 : Rd w (.slice A2 n2 c2) (bytesV l2)) :
    Calls Tryd.prog 8 #[.slice A n c, .slice A2 n2 c2] w (Awake w) := by
  have HR := Lib.hid hr
  have HR2 := Lib.hid hr2
  have HT := Lib.hid hT
  have hl := hr.len.1
  have hlc := hr.len.2.1
  have hcm := hr.len.2.2
  have hl2 := hr2.len.1
  rw [bytesV_len] at hl hl2
  unfold maxLen at hcm
  clear hr hr2 hT
  rcases Nat.lt_or_ge 300 n with h1 | h1
  · have hb : decide (300 < (n : Int)) = true := by simp; omega
    go_enter Tryd.func8, Tryd.ntmps8
    go_wp2_with fail
    refine (awake_any _ HT.out).mono ?_
    rintro e w1 ⟨rfl, hg1⟩
    go_wp2
    go_ret
    exact ⟨rfl, hg1⟩
  have hb : decide (300 < (n : Int)) = false := by simp; omega
  rcases Nat.lt_or_ge 300 n2 with h2 | h2
  · have hb2 : decide (300 < (n2 : Int)) = true := by simp; omega
    go_enter Tryd.func8, Tryd.ntmps8
    go_wp2_with fail
    refine (awake_any _ HT.out).mono ?_
    rintro e w1 ⟨rfl, hg1⟩
    go_wp2
    go_ret
    exact ⟨rfl, hg1⟩
  have hb2 : decide (300 < (n2 : Int)) = false := by simp; omega
  by_cases h3 : n % 64 = 0
  case neg =>
    have hq : (((n : Int) % 64) != 0) = true := by simp; omega
    go_enter Tryd.func8, Tryd.ntmps8
    go_wp2_with fail
    refine (awake_any _ HT.out).mono ?_
    rintro e w1 ⟨rfl, hg1⟩
    go_wp2
    go_ret
    exact ⟨rfl, hg1⟩
  have hq : (((n : Int) % 64) != 0) = false := by simp; omega
  have HL := Lib.hid (And.intro hl (And.intro hl2 (And.intro h1 (And.intro h2 h3))))
  go_enter Tryd.func8, Tryd.ntmps8
  go_wp2_with fail
  refine (start_any _).mono ?_
  rintro e w4 ⟨rfl, hg4⟩
  have HG4 := Lib.hid hg4
  clear hg4
  go_wp2_with (refine wpList_store_row _ rfl rfl _ _ _ rfl w4.heap.size 30 zeros8 (wordsV start) rfl rfl (Row.new w4 30 zeros8) rfl (wordsV_one _) (by kernel_rfl) ?_; intro w5 hr5 hg5)
  have hgw5 : w4.grownBy w5 none := grown_own (grown_alloc (grown_refl _ _) _) hg5 (Nat.le_refl _)
  have HR5 := Lib.hid hr5
  have HG5 := Lib.hid (HG4.out.trans hgw5)
  have HGE := Lib.hid HG4.out.size
  clear hr5 hg5 hgw5 HG4
  generalize w4.heap.size = g at *
  go_loopw [6] (fun i W => ∃ j : Nat, 64 * j ≤ n ∧ i = .int .i64 (64 * (j : Int)) ∧ Row W g 30 (wordsV (runB start (l.take (64 * j)))) ∧ w.grownBy W none) (fun i _ => n - (intOf i).toNat)
  case atStart => exact ⟨0, Nat.zero_le _, rfl, by rw [Nat.mul_zero, List.take_zero, runB_small _ _ (by simp)]; exact HR5.out, HG5.out⟩
  case round =>
    clear HR5 HG5
    obtain ⟨j, hj, rfl, hrow, hgr⟩ := hrel
    have HGR := Lib.hid hgr
    have HROW := Lib.hid hrow
    clear hgr hrow
    by_cases h64 : 64 * j + 64 ≤ n
    · have hru := HR.out.grown0 HGR.out
      obtain ⟨ad, rfl, _⟩ := hru.cells (by intro e; have := congrArg List.length e; rw [bytesV_len] at this; simp only [List.length_nil] at this; omega)
      have hb64 : ((l.drop (64 * j)).take 64).length = 64 := by rw [List.length_take, List.length_drop]; omega
      have hc64 := hru.block j
      have hS8 := runB_len start (l.take (64 * j)) start_len
      have HST := Lib.hid (runB_step2 start l j (by omega))
      generalize runB start (l.take (64 * j)) = S at *
      generalize hBB : (l.drop (64 * j)).take 64 = B at *
      have HC := Lib.hid (And.intro hc64 (And.intro hS8 hb64))
      have HWS := Lib.hid (show (wordsV S).length = 8 by rw [wordsV_len, hS8])
      have HJ := Lib.hid (show 64 * j ≤ 1000000000000 by omega)
      have HJC := Lib.hid (show 64 * j + 64 ≤ c by omega)
      have HRU := Lib.hid hru
      clear hc64 hS8 hb64 hru hBB
      go_wp2
      refine wp_region_walk 9 [] dis_nil (by kernel_rfl) (by kernel_rfl) (by kernel_rfl) ?_
      simp only [List.take_succ_cons, List.take_zero, List.drop_succ_cons, List.drop_zero]
      refine Walk.val (G := Is (.agg (wordsV S).toArray)) (stays_is _ _) rfl rfl (fun a w hm hd => ⟨wanted_plain rfl, _, ex_load_row rfl g 30 (wordsV S) _ (by rw [hm.outer 5 (by kernel_rfl)]; rfl) (HROW.out.grown0 hm.grow.none') Tryd.underlying30 rfl (by rw [HWS.out]; kernel_rfl), rfl⟩) ?_
      refine Walk.val (G := Is (.slice (some ad) n c)) (stays_is _ _) rfl rfl (fun a w hm hd => ⟨wanted_plain rfl, _, ex_move rfl, by rw [hm.outer 0 (by kernel_rfl)]; exact rfl⟩) ?_
      refine Walk.val (G := Is (.int .i64 (64 * (j : Int)))) (stays_is _ _) rfl rfl (fun a w hm hd => ⟨wanted_plain rfl, _, ex_move rfl, by rw [hm.outer 6 (by kernel_rfl)]; exact rfl⟩) ?_
      refine Walk.val (G := Is (.int .i64 (64 * (j : Int)))) (stays_is _ _) rfl rfl (fun a w hm hd => ⟨wanted_plain rfl, _, ex_move rfl, by rw [hm.outer 6 (by kernel_rfl)]; exact rfl⟩) ?_
      refine Walk.val (G := Is (.int .i64 (64 * (j : Int) + 64))) (stays_is _ _) rfl rfl (fun a w hm hd => ⟨wanted_plain rfl, _, ex_add64 rfl (hd.at_ 3 rfl rfl rfl rfl) HJ.out, rfl⟩) ?_
      refine Walk.val (G := Is (.slice (some (ad.add (64 * j))) 64 (c - 64 * j))) (stays_is _ _) rfl rfl (fun a w hm hd => ⟨wanted_plain rfl, _, ex_slice2' rfl (hd.at_ 1 rfl rfl rfl rfl) (hd.at_ 2 rfl rfl rfl rfl) (hd.at_ 4 rfl rfl rfl rfl) HJC.out, rfl⟩) ?_
      refine Walk.val (G := Is (.pointer (some (ad.add (64 * j))))) (stays_is _ _) rfl rfl (fun a w hm hd => ⟨wanted_plain rfl, _, ex_s2a rfl (hd.at_ 5 rfl rfl rfl rfl) (Nat.le_refl _), rfl⟩) ?_
      refine Walk.val (G := Is (.agg (bytesV B).toArray)) (stays_is _ _) rfl rfl (fun a w hm hd => ⟨wanted_plain rfl, _, ex_load_block rfl (hd.at_ 6 rfl rfl rfl rfl) HC.out.2.2 (fun i u hj => by
        have h1 := HC.out.1 i u hj
        rw [← h1]
        exact World.cell?_of_block (hm.grow.none'.block _ (World.block_lt_of_cell? wr _ h1) (by simp))), rfl⟩) ?_
      refine Walk.call (G := Is (.agg (wordsV (blk S B)).toArray)) (stays_is _ _) rfl 15 rfl (fun a w hm _ hd => ⟨wanted_plain rfl, _, ex_call2 Tryd.func15 (by kernel_rfl) (by kernel_rfl) rfl, by
        have e4 : a.eval (.tmp 32) = _ := hd.at_ 0 rfl rfl rfl rfl
        have e8 : a.eval (.tmp 39) = _ := hd.at_ 7 rfl rfl rfl rfl
        rw [e4, e8]
        refine (block_any S HC.out.2.1 B HC.out.2.2 w ((HT.out.grown HGR.out).grown hm.grow.none')).mono ?_
        rintro e w' ⟨rfl, hg⟩
        exact ⟨_, rfl, hg, rfl⟩⟩) ?_
      intro a w7 hm7 hall
      have f0 : a.eval (.tmp 32) = _ := hall 0 _ _ rfl rfl
      have f1 : a.eval (.tmp 33) = _ := hall 1 _ _ rfl rfl
      have f2 : a.eval (.tmp 34) = _ := hall 2 _ _ rfl rfl
      have f3 : a.eval (.tmp 35) = _ := hall 3 _ _ rfl rfl
      have f4 : a.eval (.tmp 36) = _ := hall 4 _ _ rfl rfl
      have f5 : a.eval (.tmp 37) = _ := hall 5 _ _ rfl rfl
      have f6 : a.eval (.tmp 38) = _ := hall 6 _ _ rfl rfl
      have f7 : a.eval (.tmp 39) = _ := hall 7 _ _ rfl rfl
      have f8 : a.eval (.tmp 40) = _ := hall 8 _ _ rfl rfl
      have hfr := hm7.frame
      simp only [List.take_succ_cons, List.take_zero, List.filterMap_cons, List.filterMap_nil, List.foldl_cons, List.foldl_nil, f0, f1, f2, f3, f4, f5, f6, f7, f8] at hfr
      have hg7 : wr.grownBy w7 none := GrownX.none' hm7.grow
      have R7 := Lib.hid (HROW.out.grown0 hg7)
      have HB8 := Lib.hid (show (wordsV (blk S B)).length = 8 by rw [wordsV_len, blk_len S B HC.out.2.1])
      have HG7 := Lib.hid (HGR.out.trans hg7)
      have HR7 := Lib.hid (HRU.out.grown0 hg7)
      have hv5 : a.eval (.tmp 5) = .pointer (some ⟨g, 0, none⟩) := hm7.outer 5 (by kernel_rfl)
      have hy9 : a.eval (.tmp 40) = .agg (wordsV (blk S B)).toArray := f8
      clear f0 f1 f2 f3 f4 f5 f6 f7 f8 hall hm7 hg7
      refine wpList_store_row _ rfl rfl _ _ _ rfl g 30 _ (wordsV (blk S B)) hv5 hy9 R7.out (by rw [HB8.out, HWS.out]) (wordsV_one _) (by rw [HB8.out]; kernel_rfl) ?_
      intro w8 hr8 hg8
      have HR8 := Lib.hid hr8
      have HG8 := Lib.hid hg8
      clear hr8 hg8 hv5 hy9
      rw [hfr]
      clear hfr
      go_wp2
      go_roundw
      case rel =>
        refine ⟨j + 1, by omega, by go_num, ?_, grown_own HG7.out HG8.out HGE.out⟩
        rw [HST.out]
        exact HR8.out
      case measure => simp [intOf]; omega
    · have hjn : 64 * j = n := by omega
      have htk : l.take (64 * j) = l := List.take_of_length_le (by omega)
      rw [htk] at HROW
      have hSa := runB_len start l start_len
      have hge : decide (64 * (j : Int) < (n : Int)) = false := by simp; omega
      have hshb : sha (l ++ l2) = told (runB (runB start l) (l2 ++ pad (l.length + l2.length))) := by
        rw [← runB_append _ _ _ (by rw [hl]; exact h3), ← List.append_assoc, ← List.length_append]
        rfl
      have HSa := Lib.hid hSa
      have HSHB := Lib.hid hshb
      clear hSa hshb htk hjn
      generalize runB start l = Sa at *
      have HGLT := Lib.hid HROW.out.lt
      generalize hW : wr = W at *
      clear hW
      go_wp2_with (at_builtin; refine wpList_append_bytes _ rfl _ _ rfl W.heap.size _ 0 [] rfl (own_empty W _ (Nat.le_refl _)) _ l2 rfl ((HR2.out.grown0 HGR.out).alloc _) ?_ ?_ ?_)
      · have := HL.out; omega
      · simp
      intro v1 w1 ho1 hg1 hat1
      have hgw1 : W.grownBy w1 none := grown_new (grown_alloc (grown_refl _ _) _) hg1 (fun b hb => by simp [Value.ownBlock] at hb; omega)
      clear hg1 hat1
      have hpn : (l.length + l2.length : Nat) = n + n2 := by omega
      have HPAD := pad_any (l.length + l2.length) (by omega) w1
      rw [show ((l.length + l2.length : Nat) : Int) = (n : Int) + (n2 : Int) by omega] at HPAD
      have HPD := Lib.hid HPAD
      clear HPAD hpn
      go_wp2_with fail
      refine HPD.out.mono ?_
      rintro e w2 ⟨u, rfl, hru, hg2, hub⟩
      have ho2 := ho1.kept hg2 (by cases v1.ownBlock <;> simp)
      have hpl := pad_len (l.length + l2.length)
      have hpz := padZ_lt (l.length + l2.length)
      have hpw := pad_whole (l.length + l2.length)
      have HPL := Lib.hid (And.intro hpl (And.intro hpz hpw))
      have hgw2 := hgw1.trans hg2
      clear ho1 hub hpl hpz hpw hgw1 hg2 HPD
      generalize pad (l.length + l2.length) = P at *
      have HRU := Lib.hid hru
      obtain ⟨A3, c3, rfl⟩ := hru.form
      clear hru
      go_wp2_with (at_builtin; refine wpList_append_bytes _ rfl _ _ rfl W.heap.size _ _ _ rfl ho2 _ P rfl HRU.out ?_ ?_ ?_)
      · have := HL.out; have := HPL.out; omega
      · exact hgw2.size
      intro v3 w3 ho3 hg3 hat3
      have hgw3 : W.grownBy w3 none := grown_new hgw2 hg3 (fun b hb => (ho2.lt b hb).1)
      have hr3 : Rd w3 v3 (bytesV (l2 ++ P)) := by
        have := Rd.of_own ho3
        simpa [bytesV_app] using this
      have hb3 : ∀ b, v3.ownBlock = some b → W.heap.size ≤ b := fun b hb => (ho3.lt b hb).1
      have hML : (l2 ++ P).length = l2.length + P.length := List.length_append
      have HML := Lib.hid hML
      have HRM := Lib.hid hr3
      have HROW3 := Lib.hid (HROW.out.grown0 hgw3)
      have HGW3 := Lib.hid (HGR.out.trans hgw3)
      have HB3 := Lib.hid hb3
      clear hg3 hat3 ho2 ho3 hgw2 hgw3 hr3 hb3 hML HROW HGR
      generalize l2 ++ P = M at *
      obtain ⟨A4, c4, rfl⟩ := HRM.out.form
      have hlM := bytesV_len M
      obtain ⟨_, hlc4, hcm4⟩ := HRM.out.len
      unfold maxLen at hcm4
      have hM64 : M.length % 64 = 0 := by have h1 := HML.out; have h2 := HPL.out; omega
      rw [hlM] at *
      have HM64 := Lib.hid hM64
      have hMle : M.length ≤ 1000 := by have h1 := HML.out; have h2 := HPL.out; omega
      generalize hmm : M.length = m at *
      have HMM := Lib.hid hmm
      have hqm : (((m : Int) % 64) != 0) = false := by simp; omega
      clear hM64 hlM hmm
      go_wp2
      go_loopw [8] (fun i W => ∃ j : Nat, 64 * j ≤ m ∧ i = .int .i64 (64 * (j : Int)) ∧ Row W g 30 (wordsV (runB Sa (M.take (64 * j)))) ∧ Rd W (.slice A4 m c4) (bytesV M) ∧ w.grownBy W none) (fun i _ => m - (intOf i).toNat)
      case atStart => exact ⟨0, Nat.zero_le _, rfl, by rw [Nat.mul_zero, List.take_zero, runB_small _ _ (by simp)]; exact HROW3.out, by have := HRM.out; rw [bytesV_len, HMM.out] at this; exact this, HGW3.out⟩
      case round =>
        clear HROW3 HRM HGW3
        obtain ⟨j, hj, rfl, hrow, hru, hgr⟩ := hrel
        have HGR := Lib.hid hgr
        have HROW := Lib.hid hrow
        have HRU := Lib.hid hru
        clear hgr hrow
        by_cases h64 : 64 * j + 64 ≤ m
        · obtain ⟨ad, rfl, _⟩ := hru.cells (by intro e; have := congrArg List.length e; rw [bytesV_len, HMM.out] at this; simp only [List.length_nil] at this; omega)
          have hb64 : ((M.drop (64 * j)).take 64).length = 64 := by rw [List.length_take, List.length_drop, HMM.out]; omega
          have hc64 := hru.block j
          have hS8 := runB_len Sa (M.take (64 * j)) HSa.out
          have HST := Lib.hid (runB_step2 Sa M j (by rw [HMM.out]; omega))
          generalize runB Sa (M.take (64 * j)) = S at *
          generalize hBB : (M.drop (64 * j)).take 64 = B at *
          have HC := Lib.hid (And.intro hc64 (And.intro hS8 hb64))
          have HWS := Lib.hid (show (wordsV S).length = 8 by rw [wordsV_len, hS8])
          have HJ := Lib.hid (show 64 * j ≤ 1000000000000 by omega)
          have HJC := Lib.hid (show 64 * j + 64 ≤ c4 by omega)
          clear hc64 hS8 hb64 hru hBB
          go_wp2
          refine wp_region_walk 9 [] dis_nil (by kernel_rfl) (by kernel_rfl) (by kernel_rfl) ?_
          simp only [List.take_succ_cons, List.take_zero, List.drop_succ_cons, List.drop_zero]
          refine Walk.val (G := Is (.agg (wordsV S).toArray)) (stays_is _ _) rfl rfl (fun a w hm hd => ⟨wanted_plain rfl, _, ex_load_row rfl g 30 (wordsV S) _ (by rw [hm.outer 5 (by kernel_rfl)]; rfl) (HROW.out.grown0 hm.grow.none') Tryd.underlying30 rfl (by rw [HWS.out]; kernel_rfl), rfl⟩) ?_
          refine Walk.val (G := Is (.slice (some ad) m c4)) (stays_is _ _) rfl rfl (fun a w hm hd => ⟨wanted_plain rfl, _, ex_move rfl, by rw [hm.outer 7 (by kernel_rfl)]; exact rfl⟩) ?_
          refine Walk.val (G := Is (.int .i64 (64 * (j : Int)))) (stays_is _ _) rfl rfl (fun a w hm hd => ⟨wanted_plain rfl, _, ex_move rfl, by rw [hm.outer 8 (by kernel_rfl)]; exact rfl⟩) ?_
          refine Walk.val (G := Is (.int .i64 (64 * (j : Int)))) (stays_is _ _) rfl rfl (fun a w hm hd => ⟨wanted_plain rfl, _, ex_move rfl, by rw [hm.outer 8 (by kernel_rfl)]; exact rfl⟩) ?_
          refine Walk.val (G := Is (.int .i64 (64 * (j : Int) + 64))) (stays_is _ _) rfl rfl (fun a w hm hd => ⟨wanted_plain rfl, _, ex_add64 rfl (hd.at_ 3 rfl rfl rfl rfl) HJ.out, rfl⟩) ?_
          refine Walk.val (G := Is (.slice (some (ad.add (64 * j))) 64 (c4 - 64 * j))) (stays_is _ _) rfl rfl (fun a w hm hd => ⟨wanted_plain rfl, _, ex_slice2' rfl (hd.at_ 1 rfl rfl rfl rfl) (hd.at_ 2 rfl rfl rfl rfl) (hd.at_ 4 rfl rfl rfl rfl) HJC.out, rfl⟩) ?_
          refine Walk.val (G := Is (.pointer (some (ad.add (64 * j))))) (stays_is _ _) rfl rfl (fun a w hm hd => ⟨wanted_plain rfl, _, ex_s2a rfl (hd.at_ 5 rfl rfl rfl rfl) (Nat.le_refl _), rfl⟩) ?_
          refine Walk.val (G := Is (.agg (bytesV B).toArray)) (stays_is _ _) rfl rfl (fun a w hm hd => ⟨wanted_plain rfl, _, ex_load_block rfl (hd.at_ 6 rfl rfl rfl rfl) HC.out.2.2 (fun i u hj => by
            have h1 := HC.out.1 i u hj
            rw [← h1]
            exact World.cell?_of_block (hm.grow.none'.block _ (World.block_lt_of_cell? wr _ h1) (by simp))), rfl⟩) ?_
          refine Walk.call (G := Is (.agg (wordsV (blk S B)).toArray)) (stays_is _ _) rfl 15 rfl (fun a w hm _ hd => ⟨wanted_plain rfl, _, ex_call2 Tryd.func15 (by kernel_rfl) (by kernel_rfl) rfl, by
            have e4 : a.eval (.tmp 61) = _ := hd.at_ 0 rfl rfl rfl rfl
            have e8 : a.eval (.tmp 68) = _ := hd.at_ 7 rfl rfl rfl rfl
            rw [e4, e8]
            refine (block_any S HC.out.2.1 B HC.out.2.2 w ((HT.out.grown HGR.out).grown hm.grow.none')).mono ?_
            rintro e w' ⟨rfl, hg⟩
            exact ⟨_, rfl, hg, rfl⟩⟩) ?_
          intro a w7 hm7 hall
          have f0 : a.eval (.tmp 61) = _ := hall 0 _ _ rfl rfl
          have f1 : a.eval (.tmp 62) = _ := hall 1 _ _ rfl rfl
          have f2 : a.eval (.tmp 63) = _ := hall 2 _ _ rfl rfl
          have f3 : a.eval (.tmp 64) = _ := hall 3 _ _ rfl rfl
          have f4 : a.eval (.tmp 65) = _ := hall 4 _ _ rfl rfl
          have f5 : a.eval (.tmp 66) = _ := hall 5 _ _ rfl rfl
          have f6 : a.eval (.tmp 67) = _ := hall 6 _ _ rfl rfl
          have f7 : a.eval (.tmp 68) = _ := hall 7 _ _ rfl rfl
          have f8 : a.eval (.tmp 69) = _ := hall 8 _ _ rfl rfl
          have hfr := hm7.frame
          simp only [List.take_succ_cons, List.take_zero, List.filterMap_cons, List.filterMap_nil, List.foldl_cons, List.foldl_nil, f0, f1, f2, f3, f4, f5, f6, f7, f8] at hfr
          have hg7 : wr.grownBy w7 none := GrownX.none' hm7.grow
          have R7 := Lib.hid (HROW.out.grown0 hg7)
          have HB8 := Lib.hid (show (wordsV (blk S B)).length = 8 by rw [wordsV_len, blk_len S B HC.out.2.1])
          have HG7 := Lib.hid (HGR.out.trans hg7)
          have HR7 := Lib.hid (HRU.out.grown0 hg7)
          have hv5 : a.eval (.tmp 5) = .pointer (some ⟨g, 0, none⟩) := hm7.outer 5 (by kernel_rfl)
          have hy9 : a.eval (.tmp 69) = .agg (wordsV (blk S B)).toArray := f8
          clear f0 f1 f2 f3 f4 f5 f6 f7 f8 hall hm7 hg7
          refine wpList_store_row _ rfl rfl _ _ _ rfl g 30 _ (wordsV (blk S B)) hv5 hy9 R7.out (by rw [HB8.out, HWS.out]) (wordsV_one _) (by rw [HB8.out]; kernel_rfl) ?_
          intro w8 hr8 hg8
          have HR8 := Lib.hid hr8
          have HG8 := Lib.hid hg8
          clear hr8 hg8 hv5 hy9
          rw [hfr]
          clear hfr
          go_wp2
          go_roundw
          case rel =>
            refine ⟨j + 1, by omega, by go_num, ?_, HR7.out.grown HG8.out (fun b hb e => by have h1 := HB3.out b hb; have h2 := HGLT.out; cases e; omega), grown_own HG7.out HG8.out HGE.out⟩
            rw [HST.out]
            exact HR8.out
          case measure => simp [intOf]; omega
        · have htk : M.take (64 * j) = M := List.take_of_length_le (by rw [HMM.out]; have := HM64.out; omega)
          rw [htk] at HROW
          have hge2 : decide (64 * (j : Int) < (m : Int)) = false := by have := HM64.out; simp; omega
          have hS8 := runB_len Sa M HSa.out
          have HO := of_two _ _ l l2 wr 22 (HT.out.grown HGR.out) (HR.out.grown0 HGR.out) (HR2.out.grown0 HGR.out) (by rw [List.length_append]; have := HL.out; omega)
          rw [HSHB.out] at HO
          generalize runB Sa M = S at *
          have HOF := Lib.hid HO
          have HTL := Lib.hid (show (bytesV (told S)).length = 32 by rw [bytesV_len, told_len, hS8])
          have t0 := told_at S 0 0 (by rw [hS8]; decide) (by decide)
          have t7 := told_at S 7 3 (by rw [hS8]; decide) (by decide)
          have t3 := told_at S 3 3 (by rw [hS8]; decide) (by decide)
          have s0 : (wordsV S)[0]? = some (.int .u32 ((S.getD 0 0).toNat : Int)) := by simp [wordsV, wordV, List.getElem?_eq_getElem (show 0 < S.length by omega)]
          have s7 : (wordsV S)[7]? = some (.int .u32 ((S.getD 7 0).toNat : Int)) := by simp [wordsV, wordV, List.getElem?_eq_getElem (show 7 < S.length by omega)]
          have s3 : (wordsV S)[3]? = some (.int .u32 ((S.getD 3 0).toNat : Int)) := by simp [wordsV, wordV, List.getElem?_eq_getElem (show 3 < S.length by omega)]
          have y0 := (S.getD 0 0).isLt
          generalize S.getD 0 0 = z0 at *
          generalize S.getD 7 0 = z7 at *
          generalize S.getD 3 0 = z3 at *
          have b0 : (bytesV (told S))[0]? = some (.int .u8 ((z0.toNat : Int) / 16777216)) := by
            have e : ((UInt8.ofNat (z0.toNat / 2 ^ 24)).toNat : Int) = (z0.toNat : Int) / 16777216 := by
              rw [UInt8.toNat_ofNat']
              omega
            have t0' : (told S)[0]? = some (UInt8.ofNat (z0.toNat / 2 ^ 24)) := t0
            simp only [bytesV, List.getElem?_map, t0', Option.map_some, byteV, e]
          have b31 : (bytesV (told S))[31]? = some (.int .u8 ((z7.toNat : Int) % 256)) := by
            have e : ((UInt8.ofNat (z7.toNat / 2 ^ 0)).toNat : Int) = (z7.toNat : Int) % 256 := by
              rw [UInt8.toNat_ofNat']
              omega
            have t7' : (told S)[31]? = some (UInt8.ofNat (z7.toNat / 2 ^ 0)) := t7
            simp only [bytesV, List.getElem?_map, t7', Option.map_some, byteV, e]
          have b15 : (bytesV (told S))[15]? = some (.int .u8 ((z3.toNat : Int) % 256)) := by
            have e : ((UInt8.ofNat (z3.toNat / 2 ^ 0)).toNat : Int) = (z3.toNat : Int) % 256 := by
              rw [UInt8.toNat_ofNat']
              omega
            have t3' : (told S)[15]? = some (UInt8.ofNat (z3.toNat / 2 ^ 0)) := t3
            simp only [bytesV, List.getElem?_map, t3', Option.map_some, byteV, e]
          have HCE := Lib.hid (And.intro b0 (And.intro b31 (And.intro b15 (And.intro s0 (And.intro s7 s3)))))
          clear HO hS8 htk hru t0 t7 t3 s0 s7 s3 b0 b31 b15
          go_wp2_with fail
          refine HOF.out.mono ?_
          rintro e w6 ⟨rfl, hg6⟩
          have hg06 : wr.grownBy w6 none := (grown_alloc (grown_refl _ _) _).trans hg6
          have HG6 := Lib.hid (HGR.out.trans hg06)
          have HR6 := Lib.hid (HROW.out.grown0 hg06)
          clear hg6 hg06 HROW HOF
          go_wp2_with (refine wpList_store_row _ rfl rfl _ _ _ rfl w6.heap.size 24 (noughts8 32) (bytesV (told S)) rfl rfl (Row.new w6 24 (noughts8 32)) ?_ (bytesV_one _) ?_ ?_)
          · rw [HTL.out]; rfl
          · rw [HTL.out]; kernel_rfl
          intro w7 hr7 hg7
          have hgw7 : w6.grownBy w7 none := grown_own (grown_alloc (grown_refl _ _) _) hg7 (Nat.le_refl _)
          have HG7 := Lib.hid (HG6.out.trans hgw7)
          have hs7 := HR6.out.grown0 hgw7
          have c0 := hr7.cell HCE.out.1
          have c31 := hr7.cell HCE.out.2.1
          have c15 := hr7.cell HCE.out.2.2.1
          have d0 := hs7.cell HCE.out.2.2.2.1
          have d7 := hs7.cell HCE.out.2.2.2.2.1
          have d3 := hs7.cell HCE.out.2.2.2.2.2
          have HAW := Lib.hid (awake_any w7 (HT.out.grown HG7.out))
          clear hr7 hg7 hgw7 hs7 HG6 HR6
          generalize w6.heap.size = g2 at *
          go_wp2_with fail
          refine HAW.out.mono ?_
          rintro e w9 ⟨rfl, hg9⟩
          go_wp2
          go_ret
          exact ⟨rfl, HG7.out.trans hg9⟩
end Go.Proofs.YtibpjmbnllmahaaDoor
