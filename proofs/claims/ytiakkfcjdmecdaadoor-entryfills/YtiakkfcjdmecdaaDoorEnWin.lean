/-
  entry.Within over this program.
-/
import Derived.Test.YtiakkfcjdmecdaaDoorEnFind
import Derived.Test.YtiakkfcjdmecdaaDoorEnSlice
import Derived.BigQuiet
namespace Go.Proofs.YtiakkfcjdmecdaaDoor
set_option maxRecDepth 1000000
open Go.RowKit

section
variable {o : Oper} {a : Act} {w : World}
theorem st_gtrN {x y : Operand} {p q : Int} {b : Bool} (h : o.op = .binOp .gtr 3 x y 3) (hx : Is (.int .i64 p) (a.eval x) w) (hy : Is (.int .i64 q) (a.eval y) w) (e : decide (q < p) = b) : Runs (Is (.bool b)) o a w := by
  have hx' : a.eval x = .int .i64 p := hx
  have hy' : a.eval y = .int .i64 q := hy
  subst e
  refine ⟨_, ?_, rfl⟩
  simp only [execOp, h, hx', hy']
  simp [go_sem]
end
theorem Row.cellsAt {w w' : World} {g : Nat} {t : TypeId} {cs : List Value} (h : Row w g t cs) (hg : w.grownBy w' none) : ∀ i u, cs[i]? = some u → w'.cell? ((⟨g, 0, none⟩ : Addr).add i) = some u := by
  intro i u hu
  have := (h.grown0 hg).cell hu
  rw [show (⟨g, 0, none⟩ : Addr).add i = ⟨g, i, none⟩ by unfold Addr.add; split <;> simp_all]
  exact this
theorem withinC (e : En) (m : Int) (g : Nat) (W : World) (hr : Row W g 3 [.int .i64 m]) (hi : I64 (e.beg + e.size)) :
    Calls Tryd.prog 42 #[enV e, .pointer (some ⟨g, 0, none⟩)] W (Val (.bool (decide (m < e.beg + e.size))) W) := by
  have HEN := Lib.hid (fun w => end_any e w hi)
  have HC := Lib.hid (fun W2 (hg : (W.alloc (.cells (enC e).toArray 38)).grownBy W2 none) => (Row.new W 38 (enC e)).cellsAt hg)
  have HB := Lib.hid (fun W2 (hg : (W.alloc (.cells (enC e).toArray 38)).grownBy W2 none) => ((hr.alloc (.cells (enC e).toArray 38)).grown0 hg).cell (j := 0) rfl)
  have HG0 := Lib.hid (grown_alloc (grown_refl W none) (.cells (enC e).toArray 38))
  clear hr hi
  obtain ⟨w0, hw0⟩ : ∃ w0, W.alloc (.cells (enC e).toArray 38) = w0 := ⟨_, rfl⟩
  rw [hw0] at HC HB HG0
  simp only [enC] at hw0
  subst hw0
  go_enter Tryd.func42, Tryd.ntmps42
  simp only [enV, enC]
  go_wp2
  refine wp_region_walk3 5 [] dis_nil (by kernel_rfl) (by kernel_rfl) (by kernel_rfl) ?_
  simp only [List.take_succ_cons, List.take_zero, List.drop_succ_cons, List.drop_zero]
  refine Walk.val (G := Is (enV e)) (stays_is _ _) rfl rfl (fun a w hm hd => ⟨wanted_plain rfl, st_loadP rfl (by rw [hm.outer 2 (by kernel_rfl)]; rfl) (fun i u hu => HC.out w (GrownX.none2 hm.grow) i u hu)⟩) ?_
  refine Walk.call (G := Is (.int .i64 (e.beg + e.size))) (stays_is _ _) rfl 43 rfl (fun a w hm ha hd => ⟨wanted_plain rfl, _, ex_call1 Tryd.func43 (by kernel_rfl) (by kernel_rfl) rfl, by rw [show a.eval (.tmp 4) = _ from (hd.at_ 0 rfl rfl rfl rfl)]; exact Val.made7 (HEN.out w)⟩) ?_
  refine Walk.val (G := Is (.int .i64 m)) (stays_is _ _) rfl rfl (fun a w hm hd => ⟨wanted_plain rfl, st_cell rfl (fun _ => by kernel_rfl) (by rw [hm.outer 1 (by kernel_rfl)]; rfl) (HB.out w (GrownX.none2 hm.grow))⟩) ?_
  refine Walk.val (G := Is (.bool (decide (m < e.beg + e.size)))) (stays_is _ _) rfl rfl (fun a w hm hd => ⟨wanted_plain rfl, st_gtrN rfl (hd.at_ 1 rfl rfl rfl rfl) (hd.at_ 2 rfl rfl rfl rfl) rfl⟩) ?_
  refine Walk.val (G := Is (.bool (decide (m < e.beg + e.size)))) (stays_is _ _) rfl rfl (fun a w hm hd => ⟨wanted_plain rfl, st_assign rfl (hd.at_ 3 rfl rfl rfl rfl)⟩) ?_
  intro a9 V9 hm9 hall
  have f3 : Is (.bool (decide (m < e.beg + e.size))) (a9.eval (.tmp 3)) V9 := hall 4 _ _ rfl rfl
  have hfr := hm9.frame
  simp only [List.take_succ_cons, List.take_zero, List.filterMap_cons, List.filterMap_nil, List.foldl_cons, List.foldl_nil] at hfr
  have hgV9 := GrownX.none2 hm9.grow
  have f3 : a9.eval (.tmp 3) = _ := f3
  rw [f3] at hfr
  generalize a9.eval (.tmp 4) = e4 at hfr
  generalize a9.eval (.tmp 5) = e5 at hfr
  generalize a9.eval (.tmp 6) = e6 at hfr
  generalize a9.eval (.tmp 7) = e7 at hfr
  clear hall hm9
  unfold wpList
  rw [hfr]
  clear hfr
  go_simp
  go_wp2
  go_ret
  exact ⟨rfl, HG0.out.trans hgV9⟩

theorem enCs_back : ∀ (l : List En) (j : Nat) u, (enCs l)[j]? = some u → ∃ (q r : Nat) (d : En), l[q]? = some d ∧ (enC d)[r]? = some u ∧ j = q * 7 + r := by
  intro l
  induction l with
  | nil => intro j u h; simp [enCs] at h
  | cons e l ih =>
    intro j u h
    rw [show enCs (e :: l) = enC e ++ enCs l by simp [enCs]] at h
    by_cases hj : j < 7
    · rw [List.getElem?_append_left (by rw [show (enC e).length = 7 from rfl]; exact hj)] at h
      exact ⟨0, j, e, rfl, h, by omega⟩
    · rw [List.getElem?_append_right (by rw [show (enC e).length = 7 from rfl]; omega), show (enC e).length = 7 from rfl] at h
      obtain ⟨q, r, d, h1, h2, h3⟩ := ih _ _ h
      exact ⟨q + 1, r, d, by simpa using h1, h2, by omega⟩
theorem enCs_one (l : List En) : ∀ x ∈ enCs l, x.oneCell' = true := by
  intro x hx
  obtain ⟨e, _, he⟩ := List.mem_flatMap.1 hx
  exact enC_one e x he
theorem wpList_appEns {w : World} {ops : Array Oper} {rest : List Oper} {o : Oper} {a : Act} {Q : Exit → Act → World → Prop} (hgd : o.guard = none) (s x : Operand) (ho : o.op = .call { callee := .builtin .append, args := #[s, x], argTypes := #[25, 25] })
    (base : Nat) (v : Value) (n : Nat) (xs : List Value) (hs : a.eval s = v) (hown : w.ownsRow base 38 7 v n xs) (ad : Addr) (l : List En) (c : Nat) (hx : a.eval x = .slice (some ad) l.length c) (hr : RdE w (.slice (some ad) l.length c) l)
    (hn : n + l.length ≤ 1000000) (hbase : base ≤ w.heap.size)
    (h : ∀ v' w', w'.ownsRow base 38 7 v' (n + l.length) (xs ++ enCs l) → w.grownBy w' v.ownBlock → wpList Tryd.prog ops Q rest (a.put o.dst v') w') : wpList Tryd.prog ops Q (o :: rest) a w := by
  obtain ⟨i, z, hi, hz, hz1, h2, h3⟩ := infoEn 38 (.inl rfl)
  have hcl : ∀ j u, (enCs l)[j]? = some u → w.cell? (ad.add j) = some u := by
    intro j u hu
    obtain ⟨q, r, d, q1, q2, rfl⟩ := enCs_back l j u hu
    obtain ⟨A, c', he, _, _, hc⟩ := hr
    injection he with e1 e2 e3
    subst e1
    obtain ⟨ad', he, hcl⟩ := hc (by rintro rfl; simp at q1)
    cases he
    exact hcl q d q1 r u q2
  obtain ⟨v', w', hrun, ho2, hgr, _, hob⟩ := run_append_own_at (P := Tryd.prog) w base 25 o.type 38 i z 7 72 Tryd.underlying25 hi hz h2 h3 hz1 (by decide) v n xs hown ad l.length c (enCs l) (by rw [enCs_len]; omega)
    hcl (enCs_one l) (by unfold maxLen; omega) (by omega) hbase
  refine wpList_plain hgd fun _ hK => ?_
  unfold Oper.wp execOp
  simp only [ho, resolve, invoke, builtin, Sem.run_bind, Sem.run_pure, Result.andThen_ok, List.map_toArray, List.map_cons, List.map_nil, hs, hx, hrun]
  refine hK _ _ ?_
  exact h v' w' ho2 hgr
set_option maxHeartbeats 1000000 in
theorem clone_ents (v : Value) (l : List En) (w : World) (hv : RdE w v l) (hl : l.length ≤ 1000000) :
    Calls Tryd.prog 44 #[v] w (EntsOut w l) := by
  have hv0 := hv
  obtain ⟨A, c, rfl, h1, h2, h3⟩ := hv
  cases A with
  | none =>
    have hl0 : l = [] := by
      rcases l with _ | ⟨x, l⟩
      · rfl
      · obtain ⟨ad, h, _⟩ := h3 (by simp); cases h
    subst hl0
    have hnil := fun W => Lib.run_eql_slice_nil (P := Tryd.prog) W 25 38 none 0 c 0 0 Tryd.underlying25
    show Calls Tryd.prog 44 #[.slice none 0 c] w _
    clear h1 h2 h3 hv0
    go_enter Tryd.func44, Tryd.ntmps44
    go_wp2
    go_ret
    exact ⟨_, rfl, RdE.nil _, grown_refl _ _⟩
  | some ad =>
    have hnil := fun W n => Lib.run_eql_slice_nil (P := Tryd.prog) W 25 38 (some ad) n c 0 0 Tryd.underlying25
    clear h3 h1 h2
    have HV := Lib.hid hv0
    obtain ⟨n, hn⟩ : ∃ n, l.length = n := ⟨_, rfl⟩
    have HN := Lib.hid hn
    rw [hn] at hl HV ⊢
    clear hn hv0
    go_enter Tryd.func44, Tryd.ntmps44
    go_wp2_with (at_builtin; refine wpList_appEns rfl _ _ rfl w.heap.size _ 0 [] rfl ?_ ad l c (by rw [HN.out]; rfl) ?_ ?_ ?_ ?_)
    · exact World.ownsRow_made _ _ _ (Nat.le_refl _) (Nat.zero_le _) (by rfl)
    · rw [HN.out]; exact HV.out.grown0 (grown_alloc (grown_refl _ _) _)
    · rw [HN.out]; omega
    · simp
    · intro v' w' ho hg
      have HO := Lib.hid ho
      have HG := Lib.hid hg
      clear ho hg
      go_wp2
      go_ret
      have ho := HO.out
      try simp only [Nat.zero_add, List.nil_append] at ho
      refine ⟨_, rfl, RdE.of_own rfl ho, grown_new (grown_alloc (grown_refl _ _) _) HG.out ?_⟩
      intro b hb
      simp [Value.ownBlock] at hb
      omega

def goneE (l : List En) (m : Int) (k : Nat) : Bool := decide (m < (l.getD k default).beg + (l.getD k default).size)
theorem within_zero {l : List En} {m : Int} (h : fineE l = false) : withinE l m = 0 := by rw [withinE, h]; rfl
theorem gone_upto {l : List En} {m : Int} {k : Nat} (hk : k ≤ l.length) (h : ∀ j, j < k → goneE l m j = false) : (l.take k).all (fun e => decide (e.beg + e.size ≤ m)) = true := by
  rw [List.all_eq_true]
  intro e he
  obtain ⟨j, hj, rfl⟩ := List.mem_iff_getElem.1 he
  rw [List.length_take] at hj
  have := h j (by omega)
  rw [goneE, decide_eq_false_iff_not, show l.getD j default = l[j]'(by omega) by simp [List.getD, List.getElem?_eq_getElem (show j < l.length by omega)]] at this
  rw [List.getElem_take]
  exact decide_eq_true (by omega)
theorem within_is {l : List En} {m : Int} (hf : fineE l = true) {k : Nat} (h : (k = l.length ∧ ∀ j, j < l.length → goneE l m j = false) ∨ (k < l.length ∧ goneE l m k = true ∧ ∀ j, j < k → goneE l m j = false)) : withinE l m = k := by
  rw [withinE, hf, if_pos rfl]
  rcases h with ⟨rfl, h⟩ | ⟨hk, h1, h2⟩
  · have := gone_upto (Nat.le_refl _) h
    rw [List.take_length] at this
    exact tw_all _ l this
  · refine tw_stop _ l k hk (gone_upto (by omega) h2) ?_
    rw [goneE, decide_eq_true_eq] at h1
    exact decide_eq_false (by omega)
set_option maxHeartbeats 4000000 in
theorem within_ents (v : Value) (l : List En) (m : Int) (w : World) (mm : Nat) (hr : RdE w v l) (hm : Lens l mm) (hmb : mm < 1000000000) (hnb : l.length ≤ 1000000) (hI : I64 m) :
    Calls Tryd.prog 21 #[v, .int .i64 m] w (EntsOut w (l.take (withinE l m))) := by
  obtain ⟨A, c, rfl⟩ := hr.form
  have hg0 : w.grownBy (w.alloc (.cells #[.int .i64 m] 3)) none := grown_alloc (grown_refl _ _) _
  have hrow : Row (w.alloc (.cells #[.int .i64 m] 3)) w.heap.size 3 [.int .i64 m] := Row.new _ _ _
  have HF := Lib.hid (fine_any _ mm l _ (hr.grown0 hg0) hm hmb)
  obtain ⟨n, hn⟩ : ∃ n, l.length = n := ⟨_, rfl⟩
  have HN := Lib.hid hn
  rw [hn] at hr hnb HF ⊢
  cases hf : fineE l
  · rw [hf] at HF
    have HW := Lib.hid (show l.take (withinE l m) = [] by
      have := within_zero (l := l) (m := m) hf
      rw [this, List.take_zero])
    clear hn hr hm hrow
    go_enter Tryd.func21, Tryd.ntmps21
    go_wp2_with fail
    refine HF.out.mono ?_
    rintro e1 w1 ⟨rfl, hg⟩
    have HG := Lib.hid (hg0.trans hg)
    clear hg hg0
    go_wp2
    go_ret
    exact ⟨_, rfl, by rw [HW.out]; exact RdE.nil _, HG.out⟩
  · rw [hf] at HF
    have HI := Lib.hid (fun k (hk : k < n) => (show I64 ((l.getD k default).beg + (l.getD k default).size) by
      have := fine_ends hf (k := k) (by omega)
      exact ⟨by omega, by omega⟩))
    have HX := Lib.hid (fun w1 (hg : (w.alloc (.cells #[.int .i64 m] 3)).grownBy w1 none) => idxWithin_any w.heap.size (fun _ W => RdE W (.slice A n c) l ∧ Row W w.heap.size 3 [.int .i64 m]) (goneE l m) none A n c l w1 hn hnb (fun _ _ h => h.1)
      (fun k W hk h => (withinC (l.getD k default) m w.heap.size W h.2 (HI.out k hk)).mono fun e W2 ⟨he, hg⟩ => ⟨he, ⟨h.1.grown0 hg, h.2.grown0 hg⟩, hg⟩) ⟨(hr.grown0 hg0).grown0 hg, hrow.grown0 hg⟩)
    have HR := Lib.hid hr
    have HT := Lib.hid (fun k => within_is (l := l) (m := m) hf (k := k))
    clear hn hr hm hrow
    go_enter Tryd.func21, Tryd.ntmps21
    go_wp2_with fail
    refine HF.out.mono ?_
    rintro e1 w1 ⟨rfl, hg⟩
    have HG := Lib.hid (hg0.trans hg)
    have HX1 := Lib.hid (HX.out _ hg)
    clear hg hg0 HX
    go_wp2_with fail
    refine HX1.out.mono ?_
    rintro e2 w2 ⟨i, rfl, hfi, _, hg2⟩
    have HG2 := Lib.hid (HG.out.trans hg2)
    clear hg2 HX1 HG
    obtain ⟨k, hk, hw, hi⟩ : ∃ k, k ≤ n ∧ withinE l m = k ∧ ((decide (i < 0) = true ∧ k = n) ∨ (decide (i < 0) = false ∧ i = (k : Int))) := by
      rcases hfi with ⟨rfl, hno⟩ | ⟨k, rfl, hk, h1, h2⟩
      · exact ⟨n, Nat.le_refl _, HT.out n (by rw [HN.out]; exact .inl ⟨rfl, hno⟩), .inl ⟨by decide, rfl⟩⟩
      · exact ⟨k, by omega, HT.out k (by rw [HN.out]; exact .inr ⟨hk, h1, h2⟩), .inr ⟨by simp, rfl⟩⟩
    have HW := Lib.hid hw
    clear hw hfi
    have HKN := Lib.hid hk
    clear hk
    have HNB := Lib.hid hnb
    clear hnb
    have HCL := Lib.hid (fun v w (h : RdE w v (l.take k)) => clone_ents v (l.take k) w h (by have := HKN.out; have := HNB.out; rw [List.length_take]; omega))
    rcases hi with ⟨hi, rfl⟩ | ⟨hi, rfl⟩
    · go_wp2_with (refine wpList_runsE rfl (st_takeP k rfl (HR.out.grown0 HG2.out) rfl rfl (by rw [HN.out]; exact HKN.out)) ?_; intro v4 hv4; have HV4 := Lib.hid hv4; clear hv4)
      refine (HCL.out _ _ HV4.out).mono ?_
      rintro e5 w5 ⟨u, rfl, hu, hg5⟩
      have HU := Lib.hid hu
      have G5 := Lib.hid (World.grownBy.trans HG2.out hg5)
      clear hg5 hu
      go_wp2
      go_ret
      exact ⟨u, rfl, by rw [HW.out]; exact HU.out, G5.out⟩
    · go_wp2_with (refine wpList_runsE rfl (st_takeP k rfl (HR.out.grown0 HG2.out) rfl rfl (by rw [HN.out]; exact HKN.out)) ?_; intro v4 hv4; have HV4 := Lib.hid hv4; clear hv4)
      refine (HCL.out _ _ HV4.out).mono ?_
      rintro e5 w5 ⟨u, rfl, hu, hg5⟩
      have HU := Lib.hid hu
      have G5 := Lib.hid (World.grownBy.trans HG2.out hg5)
      clear hg5 hu
      go_wp2
      go_ret
      exact ⟨u, rfl, by rw [HW.out]; exact HU.out, G5.out⟩
theorem has_within : HasWithin := fun v l m w hr hm _ hl hI => within_ents v l m w 300 hr hm (by decide) (by omega) hI
end Go.Proofs.YtiakkfcjdmecdaaDoor
