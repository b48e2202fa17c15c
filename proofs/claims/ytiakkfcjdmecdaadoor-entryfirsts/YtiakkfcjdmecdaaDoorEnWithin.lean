/-
  The document's Within over this program.
-/
import Derived.Test.YtiakkfcjdmecdaaDoorEnFine
import Derived.Test.YtiakkfcjdmecdaaDoorEnSame
import Derived.Test.YtiakkfcjdmecdaaDoorWalkSkip
namespace Go.Proofs.YtiakkfcjdmecdaaDoor
set_option maxRecDepth 1000000
open Go.RowKit

theorem Val.made7 {v : Value} {f : FuncId} {args : Array Value} {w : World} (h : Calls Tryd.prog f args w (Val v w)) : Calls Tryd.prog f args w (fun e w' => ∃ u, e = .returned u ∧ w.grownBy w' none ∧ Is v u w') :=
  h.mono fun _ _ ⟨he, hg⟩ => ⟨v, he, hg, rfl⟩
section
variable {o : Oper} {a : Act} {w : World}
theorem st_lenE {x : Operand} {A : Option Addr} {n c : Nat} (h : o.op = .call { callee := .builtin .len, args := #[x], argTypes := #[29] }) (hx : Is (.slice A n c) (a.eval x) w) : Runs (Is (.int .i64 (n : Int))) o a w := by
  have hx' : a.eval x = .slice A n c := hx
  refine ⟨_, ?_, rfl⟩
  unfold execOp
  simp only [h, resolve, invoke, builtin, List.map_toArray, List.map_cons, List.map_nil, hx']
  simp [go_sem]
theorem st_lssE {x y : Operand} {p q : Int} {b : Bool} (h : o.op = .binOp .lss 3 x y 3) (hx : Is (.int .i64 p) (a.eval x) w) (hy : Is (.int .i64 q) (a.eval y) w) (e : decide (p < q) = b) : Runs (Is (.bool b)) o a w := by
  have hx' : a.eval x = .int .i64 p := hx
  have hy' : a.eval y = .int .i64 q := hy
  subst e
  refine ⟨_, ?_, rfl⟩
  simp only [execOp, h, hx', hy']
  simp [go_sem]
theorem st_leqE {x y : Operand} {p q : Int} {b : Bool} (h : o.op = .binOp .leq 3 x y 3) (hx : Is (.int .i64 p) (a.eval x) w) (hy : Is (.int .i64 q) (a.eval y) w) (e : decide (p ≤ q) = b) : Runs (Is (.bool b)) o a w := by
  have hx' : a.eval x = .int .i64 p := hx
  have hy' : a.eval y = .int .i64 q := hy
  subst e
  refine ⟨_, ?_, rfl⟩
  simp only [execOp, h, hx', hy']
  simp [go_sem]
theorem st_fieldE {x : Operand} {p : Addr} (k : Nat) (hk : 0 < k ∧ k < 7) (h : o.op = .fieldAddr 66 x k) (hx : Is (.pointer (some p)) (a.eval x) w) : Runs (Is (.pointer (some ⟨p.block, p.off + k, none⟩))) o a w := by
  have hx' : a.eval x = .pointer (some p) := hx
  refine ⟨_, ?_, rfl⟩
  simp only [execOp, h, hx']
  obtain rfl | rfl | rfl | rfl | rfl | rfl : k = 1 ∨ k = 2 ∨ k = 3 ∨ k = 4 ∨ k = 5 ∨ k = 6 := by omega
  all_goals kernel_rfl
end
/-- How many of the first entries are within m bytes. -/
def withinE (l : List En) (m : Int) : Nat := if fineE l then (l.takeWhile fun e => decide (e.beg + e.size ≤ m)).length else 0
theorem tw_stop (p : En → Bool) : ∀ (l : List En) (k : Nat), k < l.length → (l.take k).all p = true → p (l.getD k default) = false → (l.takeWhile p).length = k
  | [], k, h, _, _ => by simp at h
  | e :: l, 0, _, _, h => by
    have h' : p e = false := h
    simp [List.takeWhile_cons, h']
  | e :: l, k + 1, h, h1, h2 => by
    simp only [List.take_succ_cons, List.all_cons, Bool.and_eq_true] at h1
    have := tw_stop p l k (by simpa using h) h1.2 (by simpa using h2)
    simp [List.takeWhile_cons, h1.1, this]
theorem tw_all (p : En → Bool) : ∀ l : List En, l.all p = true → (l.takeWhile p).length = l.length
  | [], _ => rfl
  | e :: l, h => by
    simp only [List.all_cons, Bool.and_eq_true] at h
    simp [List.takeWhile_cons, h.1, tw_all p l h.2]
theorem fine_ends {l : List En} (h : fineE l = true) {k : Nat} (hk : k < l.length) : 0 ≤ (l.getD k default).beg ∧ (l.getD k default).beg ≤ 1048576 * 1024 ∧ 0 ≤ (l.getD k default).size ∧ (l.getD k default).size ≤ 1048576 := by
  obtain ⟨hg, hb⟩ := fine_good h
  have hs := atE hg.size hk
  have hb2 : ((l.getD k default).beg == sizesE (l.take k)) = true := by
    rw [begsTo, List.all_eq_true] at hb
    exact hb k (List.mem_range.2 hk)
  have := sizes_bound l hg.size k
  have := hg.few
  rw [beq_iff_eq] at hb2
  rw [hb2]
  omega

set_option maxHeartbeats 8000000 in
theorem refWithin_any (A : Option Addr) (n c mm : Nat) (l : List En) (m : Int) (w : World) (hr : RdE w (.slice A n c) l) (hm : Lens l mm) (hmb : mm < 1000000) (hnb : n ≤ 1000000) :
    Calls Tryd.prog 20 #[.slice A n c, .int .i64 m] w (Val (.int .i64 (withinE l m : Int)) w) := by
  have HFN := Lib.hid (fun w' (h : RdE w' (.slice A n c) l) => refFine_any A n c mm l w' h hm hmb hnb)
  have hln := hr.len.1
  subst hln
  have HR := Lib.hid hr
  have HG := Lib.hid (fun (h : fineE l = true) (k : Nat) (hk : k < l.length) => fine_ends h hk)
  clear hr hm
  cases hf : fineE l
  · rw [hf] at HFN
    have HE := Lib.hid (show withinE l m = 0 by rw [withinE, hf]; rfl)
    clear hf HG
    go_enter Tryd.func20, Tryd.ntmps20
    go_wp2
    go_loopw [5] (fun i W => i = .int .i64 0 ∧ w.grownBy W none) (fun _ _ => 0)
    case atStart => exact ⟨rfl, grown_refl _ _⟩
    case round =>
      obtain ⟨rfl, hg⟩ := hrel
      have G0 := Lib.hid hg
      have HR1 := Lib.hid (HR.out.grown0 hg)
      clear hg
      go_wp2
      refine wp_region_walk3 23 [] dis_nil (by kernel_rfl) (by kernel_rfl) (by kernel_rfl) ?_
      simp only [List.take_succ_cons, List.take_zero, List.drop_succ_cons, List.drop_zero]
      refine Walk.val (G := Is (.slice A l.length c)) (stays_is _ _) rfl rfl (fun a w hm hd => ⟨wanted_plain rfl, st_move rfl (by rw [hm.outer 0 (by kernel_rfl)]; rfl)⟩) ?_
      refine Walk.call (G := Is (.bool false)) (stays_is _ _) rfl 24 rfl (fun a w hm ha hd => ⟨wanted_plain rfl, _, ex_call1 Tryd.func24 (by kernel_rfl) (by kernel_rfl) rfl, by rw [show a.eval (.tmp 6) = _ from (hd.at_ 0 rfl rfl rfl rfl)]; exact Val.made7 (HFN.out _ (HR1.out.grown0 (GrownX.none2 hm.grow)))⟩) ?_
      refine Walk.val (G := Is (.bool false)) (stays_is _ _) rfl rfl (fun a w hm hd => ⟨wanted_plain rfl, st_move rfl (hd.at_ 1 rfl rfl rfl rfl)⟩) ?_
      refine Walk.skip rfl (fun a w hm hd => unwanted_at rfl rfl (hd.at_ 2 rfl rfl rfl rfl) (by simp)) ?_
      refine Walk.skip rfl (fun a w hm hd => unwanted_at rfl rfl (hd.at_ 2 rfl rfl rfl rfl) (by simp)) ?_
      refine Walk.skip rfl (fun a w hm hd => unwanted_at rfl rfl (hd.at_ 2 rfl rfl rfl rfl) (by simp)) ?_
      refine Walk.skip rfl (fun a w hm hd => unwanted_at rfl rfl (hd.at_ 2 rfl rfl rfl rfl) (by simp)) ?_
      refine Walk.val (G := Is (.bool false)) (stays_is _ _) rfl rfl (fun a w hm hd => ⟨wanted_plain rfl, st_pickF rfl (hd.at_ 2 rfl rfl rfl rfl) rfl⟩) ?_
      refine Walk.val (G := Is (.bool false)) (stays_is _ _) rfl rfl (fun a w hm hd => ⟨wanted_plain rfl, st_move rfl (hd.at_ 7 rfl rfl rfl rfl)⟩) ?_
      refine Walk.skip rfl (fun a w hm hd => unwanted_at rfl rfl (hd.at_ 8 rfl rfl rfl rfl) (by simp)) ?_
      refine Walk.skip rfl (fun a w hm hd => unwanted_at rfl rfl (hd.at_ 8 rfl rfl rfl rfl) (by simp)) ?_
      refine Walk.skip rfl (fun a w hm hd => unwanted_at rfl rfl (hd.at_ 8 rfl rfl rfl rfl) (by simp)) ?_
      refine Walk.skip rfl (fun a w hm hd => unwanted_at rfl rfl (hd.at_ 8 rfl rfl rfl rfl) (by simp)) ?_
      refine Walk.skip rfl (fun a w hm hd => unwanted_at rfl rfl (hd.at_ 8 rfl rfl rfl rfl) (by simp)) ?_
      refine Walk.skip rfl (fun a w hm hd => unwanted_at rfl rfl (hd.at_ 8 rfl rfl rfl rfl) (by simp)) ?_
      refine Walk.skip rfl (fun a w hm hd => unwanted_at rfl rfl (hd.at_ 8 rfl rfl rfl rfl) (by simp)) ?_
      refine Walk.skip rfl (fun a w hm hd => unwanted_at rfl rfl (hd.at_ 8 rfl rfl rfl rfl) (by simp)) ?_
      refine Walk.skip rfl (fun a w hm hd => unwanted_at rfl rfl (hd.at_ 8 rfl rfl rfl rfl) (by simp)) ?_
      refine Walk.skip rfl (fun a w hm hd => unwanted_at rfl rfl (hd.at_ 8 rfl rfl rfl rfl) (by simp)) ?_
      refine Walk.skip rfl (fun a w hm hd => unwanted_at rfl rfl (hd.at_ 8 rfl rfl rfl rfl) (by simp)) ?_
      refine Walk.skip rfl (fun a w hm hd => unwanted_at rfl rfl (hd.at_ 8 rfl rfl rfl rfl) (by simp)) ?_
      refine Walk.skip rfl (fun a w hm hd => unwanted_at rfl rfl (hd.at_ 8 rfl rfl rfl rfl) (by simp)) ?_
      refine Walk.val (G := Is (.bool false)) (stays_is _ _) rfl rfl (fun a w hm hd => ⟨wanted_plain rfl, st_pickF rfl (hd.at_ 8 rfl rfl rfl rfl) rfl⟩) ?_
      intro a9 V9 hm9 hall
      have f28 : Is (.bool false) (a9.eval (.tmp 28)) V9 := hall 22 _ _ rfl rfl
      have hfr := hm9.frame
      simp only [List.take_succ_cons, List.take_zero, List.filterMap_cons, List.filterMap_nil, List.foldl_cons, List.foldl_nil] at hfr
      have hgV9 := GrownX.none2 hm9.grow
      have f28 : a9.eval (.tmp 28) = _ := f28
      rw [f28] at hfr
      generalize a9.eval (.tmp 6) = e6 at hfr
      generalize a9.eval (.tmp 7) = e7 at hfr
      generalize a9.eval (.tmp 8) = e8 at hfr
      generalize a9.eval (.tmp 9) = e9 at hfr
      generalize a9.eval (.tmp 10) = e10 at hfr
      generalize a9.eval (.tmp 11) = e11 at hfr
      generalize a9.eval (.tmp 12) = e12 at hfr
      generalize a9.eval (.tmp 13) = e13 at hfr
      generalize a9.eval (.tmp 14) = e14 at hfr
      generalize a9.eval (.tmp 15) = e15 at hfr
      generalize a9.eval (.tmp 16) = e16 at hfr
      generalize a9.eval (.tmp 17) = e17 at hfr
      generalize a9.eval (.tmp 18) = e18 at hfr
      generalize a9.eval (.tmp 19) = e19 at hfr
      generalize a9.eval (.tmp 20) = e20 at hfr
      generalize a9.eval (.tmp 21) = e21 at hfr
      generalize a9.eval (.tmp 22) = e22 at hfr
      generalize a9.eval (.tmp 23) = e23 at hfr
      generalize a9.eval (.tmp 24) = e24 at hfr
      generalize a9.eval (.tmp 25) = e25 at hfr
      generalize a9.eval (.tmp 26) = e26 at hfr
      generalize a9.eval (.tmp 27) = e27 at hfr
      clear hall hm9
      unfold wpList
      rw [hfr]
      clear hfr
      go_simp
      go_wp2
      go_ret
      exact ⟨by rw [HE.out]; rfl, World.grownBy.trans G0.out hgV9⟩
  · rw [hf] at HFN
    have HG1 := Lib.hid (HG.out hf)
    have HE := Lib.hid (show withinE l m = (l.takeWhile fun e => decide (e.beg + e.size ≤ m)).length by rw [withinE, hf]; rfl)
    clear hf HG
    go_enter Tryd.func20, Tryd.ntmps20
    go_wp2
    go_loopw [5] (fun i W => ∃ k : Nat, i = .int .i64 k ∧ k ≤ l.length ∧ (l.take k).all (fun e => decide (e.beg + e.size ≤ m)) = true ∧ w.grownBy W none) (fun i _ => l.length - (intOf i).toNat)
    case atStart => exact ⟨0, rfl, Nat.zero_le _, by simp, grown_refl _ _⟩
    case round =>
      obtain ⟨k, rfl, hk, hall, hg⟩ := hrel
      have HA := Lib.hid hall
      have G0 := Lib.hid hg
      have HR1 := Lib.hid (HR.out.grown0 hg)
      clear hall hg
      by_cases h : k < l.length
      · have HD := Lib.hid (show decide ((k : Int) < (l.length : Int)) = true by simp; omega)
        have HK := Lib.hid h
        have HBD' := HG1.out k h
        obtain ⟨ad, rfl, hc⟩ := HR1.out.at_ h
        have HC := Lib.hid (fun W (hW : wr.grownBy W none) => cells_keep hc hW)
        have HN := Lib.hid (allE_next l (fun e => decide (e.beg + e.size ≤ m)) k h HA.out)
        have HST := Lib.hid (tw_stop (fun e => decide (e.beg + e.size ≤ m)) l k h HA.out)
        clear hc
        generalize l.getD k default = e at *
        have HBD := Lib.hid (show -1000000000000000 ≤ e.beg + e.size ∧ e.beg + e.size ≤ 1000000000000000 by omega)
        obtain ⟨bb, hbb⟩ : ∃ bb, decide (e.beg + e.size ≤ m) = bb := ⟨_, rfl⟩
        have HQ := Lib.hid hbb
        clear hbb HBD' h
        go_wp2
        refine wp_region_walk3 23 [] dis_nil (by kernel_rfl) (by kernel_rfl) (by kernel_rfl) ?_
        simp only [List.take_succ_cons, List.take_zero, List.drop_succ_cons, List.drop_zero]
        refine Walk.val (G := Is (.slice (some ad) l.length c)) (stays_is _ _) rfl rfl (fun a w hm hd => ⟨wanted_plain rfl, st_move rfl (by rw [hm.outer 0 (by kernel_rfl)]; rfl)⟩) ?_
        refine Walk.call (G := Is (.bool true)) (stays_is _ _) rfl 24 rfl (fun a w hm ha hd => ⟨wanted_plain rfl, _, ex_call1 Tryd.func24 (by kernel_rfl) (by kernel_rfl) rfl, by rw [show a.eval (.tmp 6) = _ from (hd.at_ 0 rfl rfl rfl rfl)]; exact Val.made7 (HFN.out _ (HR1.out.grown0 (GrownX.none2 hm.grow)))⟩) ?_
        refine Walk.val (G := Is (.bool true)) (stays_is _ _) rfl rfl (fun a w hm hd => ⟨wanted_plain rfl, st_move rfl (hd.at_ 1 rfl rfl rfl rfl)⟩) ?_
        refine Walk.val (G := Is (.int .i64 (k : Int))) (stays_is _ _) rfl rfl (fun a w hm hd => ⟨wanted_at rfl rfl (hd.at_ 2 rfl rfl rfl rfl), st_move rfl (by rw [hm.outer 5 (by kernel_rfl)]; rfl)⟩) ?_
        refine Walk.val (G := Is (.slice (some ad) l.length c)) (stays_is _ _) rfl rfl (fun a w hm hd => ⟨wanted_at rfl rfl (hd.at_ 2 rfl rfl rfl rfl), st_move rfl (by rw [hm.outer 0 (by kernel_rfl)]; rfl)⟩) ?_
        refine Walk.val (G := Is (.int .i64 (l.length : Int))) (stays_is _ _) rfl rfl (fun a w hm hd => ⟨wanted_at rfl rfl (hd.at_ 2 rfl rfl rfl rfl), st_lenE rfl (hd.at_ 4 rfl rfl rfl rfl)⟩) ?_
        refine Walk.val (G := Is (.bool true)) (stays_is _ _) rfl rfl (fun a w hm hd => ⟨wanted_at rfl rfl (hd.at_ 2 rfl rfl rfl rfl), st_lssE rfl (hd.at_ 3 rfl rfl rfl rfl) (hd.at_ 5 rfl rfl rfl rfl) HD.out⟩) ?_
        refine Walk.val (G := Is (.bool true)) (stays_is _ _) rfl rfl (fun a w hm hd => ⟨wanted_plain rfl, st_pick rfl (hd.at_ 2 rfl rfl rfl rfl) (hd.at_ 6 rfl rfl rfl rfl)⟩) ?_
        refine Walk.val (G := Is (.bool true)) (stays_is _ _) rfl rfl (fun a w hm hd => ⟨wanted_plain rfl, st_move rfl (hd.at_ 7 rfl rfl rfl rfl)⟩) ?_
        refine Walk.val (G := Is (.slice (some ad) l.length c)) (stays_is _ _) rfl rfl (fun a w hm hd => ⟨wanted_at rfl rfl (hd.at_ 8 rfl rfl rfl rfl), st_move rfl (by rw [hm.outer 0 (by kernel_rfl)]; rfl)⟩) ?_
        refine Walk.val (G := Is (.int .i64 (k : Int))) (stays_is _ _) rfl rfl (fun a w hm hd => ⟨wanted_at rfl rfl (hd.at_ 8 rfl rfl rfl rfl), st_move rfl (by rw [hm.outer 5 (by kernel_rfl)]; rfl)⟩) ?_
        refine Walk.val (G := Is (.pointer (some (ad.add (k * 7))))) (stays_is _ _) rfl rfl (fun a w hm hd => ⟨wanted_at rfl rfl (hd.at_ 8 rfl rfl rfl rfl), st_idxE rfl (hd.at_ 9 rfl rfl rfl rfl) (hd.at_ 10 rfl rfl rfl rfl) HK.out⟩) ?_
        refine Walk.val (G := Is (.pointer (some ⟨(ad.add (k * 7)).block, (ad.add (k * 7)).off + 5, none⟩))) (stays_is _ _) rfl rfl (fun a w hm hd => ⟨wanted_at rfl rfl (hd.at_ 8 rfl rfl rfl rfl), st_fieldE 5 (by decide) rfl (hd.at_ 11 rfl rfl rfl rfl)⟩) ?_
        refine Walk.val (G := Is (.int .i64 e.beg)) (stays_is _ _) rfl rfl (fun a w hm hd => ⟨wanted_at rfl rfl (hd.at_ 8 rfl rfl rfl rfl), st_cell rfl (fun _ => by kernel_rfl) (hd.at_ 12 rfl rfl rfl rfl) (HC.out _ (GrownX.none2 hm.grow) 5 _ rfl)⟩) ?_
        refine Walk.val (G := Is (.slice (some ad) l.length c)) (stays_is _ _) rfl rfl (fun a w hm hd => ⟨wanted_at rfl rfl (hd.at_ 8 rfl rfl rfl rfl), st_move rfl (by rw [hm.outer 0 (by kernel_rfl)]; rfl)⟩) ?_
        refine Walk.val (G := Is (.int .i64 (k : Int))) (stays_is _ _) rfl rfl (fun a w hm hd => ⟨wanted_at rfl rfl (hd.at_ 8 rfl rfl rfl rfl), st_move rfl (by rw [hm.outer 5 (by kernel_rfl)]; rfl)⟩) ?_
        refine Walk.val (G := Is (.pointer (some (ad.add (k * 7))))) (stays_is _ _) rfl rfl (fun a w hm hd => ⟨wanted_at rfl rfl (hd.at_ 8 rfl rfl rfl rfl), st_idxE rfl (hd.at_ 14 rfl rfl rfl rfl) (hd.at_ 15 rfl rfl rfl rfl) HK.out⟩) ?_
        refine Walk.val (G := Is (.pointer (some ⟨(ad.add (k * 7)).block, (ad.add (k * 7)).off + 6, none⟩))) (stays_is _ _) rfl rfl (fun a w hm hd => ⟨wanted_at rfl rfl (hd.at_ 8 rfl rfl rfl rfl), st_fieldE 6 (by decide) rfl (hd.at_ 16 rfl rfl rfl rfl)⟩) ?_
        refine Walk.val (G := Is (.int .i64 e.size)) (stays_is _ _) rfl rfl (fun a w hm hd => ⟨wanted_at rfl rfl (hd.at_ 8 rfl rfl rfl rfl), st_cell rfl (fun _ => by kernel_rfl) (hd.at_ 17 rfl rfl rfl rfl) (HC.out _ (GrownX.none2 hm.grow) 6 _ rfl)⟩) ?_
        refine Walk.val (G := Is (.int .i64 (e.beg + e.size))) (stays_is _ _) rfl rfl (fun a w hm hd => ⟨wanted_at rfl rfl (hd.at_ 8 rfl rfl rfl rfl), st_addi rfl (hd.at_ 13 rfl rfl rfl rfl) (hd.at_ 18 rfl rfl rfl rfl) rfl HBD.out⟩) ?_
        refine Walk.val (G := Is (.int .i64 m)) (stays_is _ _) rfl rfl (fun a w hm hd => ⟨wanted_at rfl rfl (hd.at_ 8 rfl rfl rfl rfl), st_move rfl (by rw [hm.outer 1 (by kernel_rfl)]; rfl)⟩) ?_
        refine Walk.val (G := Is (.bool bb)) (stays_is _ _) rfl rfl (fun a w hm hd => ⟨wanted_at rfl rfl (hd.at_ 8 rfl rfl rfl rfl), st_leqE rfl (hd.at_ 19 rfl rfl rfl rfl) (hd.at_ 20 rfl rfl rfl rfl) HQ.out⟩) ?_
        refine Walk.val (G := Is (.bool bb)) (stays_is _ _) rfl rfl (fun a w hm hd => ⟨wanted_plain rfl, st_pick rfl (hd.at_ 8 rfl rfl rfl rfl) (hd.at_ 21 rfl rfl rfl rfl)⟩) ?_
        intro a9 V9 hm9 hall
        have f28 : Is (.bool bb) (a9.eval (.tmp 28)) V9 := hall 22 _ _ rfl rfl
        have hfr := hm9.frame
        simp only [List.take_succ_cons, List.take_zero, List.filterMap_cons, List.filterMap_nil, List.foldl_cons, List.foldl_nil] at hfr
        have hgV9 := GrownX.none2 hm9.grow
        have f28 : a9.eval (.tmp 28) = _ := f28
        rw [f28] at hfr
        generalize a9.eval (.tmp 6) = e6 at hfr
        generalize a9.eval (.tmp 7) = e7 at hfr
        generalize a9.eval (.tmp 8) = e8 at hfr
        generalize a9.eval (.tmp 9) = e9 at hfr
        generalize a9.eval (.tmp 10) = e10 at hfr
        generalize a9.eval (.tmp 11) = e11 at hfr
        generalize a9.eval (.tmp 12) = e12 at hfr
        generalize a9.eval (.tmp 13) = e13 at hfr
        generalize a9.eval (.tmp 14) = e14 at hfr
        generalize a9.eval (.tmp 15) = e15 at hfr
        generalize a9.eval (.tmp 16) = e16 at hfr
        generalize a9.eval (.tmp 17) = e17 at hfr
        generalize a9.eval (.tmp 18) = e18 at hfr
        generalize a9.eval (.tmp 19) = e19 at hfr
        generalize a9.eval (.tmp 20) = e20 at hfr
        generalize a9.eval (.tmp 21) = e21 at hfr
        generalize a9.eval (.tmp 22) = e22 at hfr
        generalize a9.eval (.tmp 23) = e23 at hfr
        generalize a9.eval (.tmp 24) = e24 at hfr
        generalize a9.eval (.tmp 25) = e25 at hfr
        generalize a9.eval (.tmp 26) = e26 at hfr
        generalize a9.eval (.tmp 27) = e27 at hfr
        clear hall hm9
        unfold wpList
        rw [hfr]
        clear hfr
        go_simp
        cases bb
        · have HX := Lib.hid (show withinE l m = k by rw [HE.out]; exact HST.out HQ.out)
          go_wp2
          go_ret
          exact ⟨by rw [HX.out]; rfl, World.grownBy.trans G0.out hgV9⟩
        · have HX := Lib.hid (show (l.take (k + 1)).all (fun e => decide (e.beg + e.size ≤ m)) = true by rw [HN.out]; exact HQ.out)
          have h := HK.out
          go_wp2
          go_roundw
          case rel => exact ⟨k + 1, by go_num, HK.out, HX.out, World.grownBy.trans G0.out hgV9⟩
          case measure =>
            simp [intOf]
            omega
      · have HD := Lib.hid (show decide ((k : Int) < (l.length : Int)) = false from decide_eq_false (by omega))
        have HX := Lib.hid (show withinE l m = k by
          have e : l.take k = l := List.take_of_length_le (by omega)
          have := HA.out
          rw [e] at this
          rw [HE.out, tw_all _ l this]; omega)
        go_wp2
        refine wp_region_walk3 23 [] dis_nil (by kernel_rfl) (by kernel_rfl) (by kernel_rfl) ?_
        simp only [List.take_succ_cons, List.take_zero, List.drop_succ_cons, List.drop_zero]
        refine Walk.val (G := Is (.slice A l.length c)) (stays_is _ _) rfl rfl (fun a w hm hd => ⟨wanted_plain rfl, st_move rfl (by rw [hm.outer 0 (by kernel_rfl)]; rfl)⟩) ?_
        refine Walk.call (G := Is (.bool true)) (stays_is _ _) rfl 24 rfl (fun a w hm ha hd => ⟨wanted_plain rfl, _, ex_call1 Tryd.func24 (by kernel_rfl) (by kernel_rfl) rfl, by rw [show a.eval (.tmp 6) = _ from (hd.at_ 0 rfl rfl rfl rfl)]; exact Val.made7 (HFN.out _ (HR1.out.grown0 (GrownX.none2 hm.grow)))⟩) ?_
        refine Walk.val (G := Is (.bool true)) (stays_is _ _) rfl rfl (fun a w hm hd => ⟨wanted_plain rfl, st_move rfl (hd.at_ 1 rfl rfl rfl rfl)⟩) ?_
        refine Walk.val (G := Is (.int .i64 (k : Int))) (stays_is _ _) rfl rfl (fun a w hm hd => ⟨wanted_at rfl rfl (hd.at_ 2 rfl rfl rfl rfl), st_move rfl (by rw [hm.outer 5 (by kernel_rfl)]; rfl)⟩) ?_
        refine Walk.val (G := Is (.slice A l.length c)) (stays_is _ _) rfl rfl (fun a w hm hd => ⟨wanted_at rfl rfl (hd.at_ 2 rfl rfl rfl rfl), st_move rfl (by rw [hm.outer 0 (by kernel_rfl)]; rfl)⟩) ?_
        refine Walk.val (G := Is (.int .i64 (l.length : Int))) (stays_is _ _) rfl rfl (fun a w hm hd => ⟨wanted_at rfl rfl (hd.at_ 2 rfl rfl rfl rfl), st_lenE rfl (hd.at_ 4 rfl rfl rfl rfl)⟩) ?_
        refine Walk.val (G := Is (.bool false)) (stays_is _ _) rfl rfl (fun a w hm hd => ⟨wanted_at rfl rfl (hd.at_ 2 rfl rfl rfl rfl), st_lssE rfl (hd.at_ 3 rfl rfl rfl rfl) (hd.at_ 5 rfl rfl rfl rfl) HD.out⟩) ?_
        refine Walk.val (G := Is (.bool false)) (stays_is _ _) rfl rfl (fun a w hm hd => ⟨wanted_plain rfl, st_pick rfl (hd.at_ 2 rfl rfl rfl rfl) (hd.at_ 6 rfl rfl rfl rfl)⟩) ?_
        refine Walk.val (G := Is (.bool false)) (stays_is _ _) rfl rfl (fun a w hm hd => ⟨wanted_plain rfl, st_move rfl (hd.at_ 7 rfl rfl rfl rfl)⟩) ?_
        refine Walk.skip rfl (fun a w hm hd => unwanted_at rfl rfl (hd.at_ 8 rfl rfl rfl rfl) (by simp)) ?_
        refine Walk.skip rfl (fun a w hm hd => unwanted_at rfl rfl (hd.at_ 8 rfl rfl rfl rfl) (by simp)) ?_
        refine Walk.skip rfl (fun a w hm hd => unwanted_at rfl rfl (hd.at_ 8 rfl rfl rfl rfl) (by simp)) ?_
        refine Walk.skip rfl (fun a w hm hd => unwanted_at rfl rfl (hd.at_ 8 rfl rfl rfl rfl) (by simp)) ?_
        refine Walk.skip rfl (fun a w hm hd => unwanted_at rfl rfl (hd.at_ 8 rfl rfl rfl rfl) (by simp)) ?_
        refine Walk.skip rfl (fun a w hm hd => unwanted_at rfl rfl (hd.at_ 8 rfl rfl rfl rfl) (by simp)) ?_
        refine Walk.skip rfl (fun a w hm hd => unwanted_at rfl rfl (hd.at_ 8 rfl rfl rfl rfl) (by simp)) ?_
        refine Walk.skip rfl (fun a w hm hd => unwanted_at rfl rfl (hd.at_ 8 rfl rfl rfl rfl) (by simp)) ?_
        refine Walk.skip rfl (fun a w hm hd => unwanted_at rfl rfl (hd.at_ 8 rfl rfl rfl rfl) (by simp)) ?_
        refine Walk.skip rfl (fun a w hm hd => unwanted_at rfl rfl (hd.at_ 8 rfl rfl rfl rfl) (by simp)) ?_
        refine Walk.skip rfl (fun a w hm hd => unwanted_at rfl rfl (hd.at_ 8 rfl rfl rfl rfl) (by simp)) ?_
        refine Walk.skip rfl (fun a w hm hd => unwanted_at rfl rfl (hd.at_ 8 rfl rfl rfl rfl) (by simp)) ?_
        refine Walk.skip rfl (fun a w hm hd => unwanted_at rfl rfl (hd.at_ 8 rfl rfl rfl rfl) (by simp)) ?_
        refine Walk.val (G := Is (.bool false)) (stays_is _ _) rfl rfl (fun a w hm hd => ⟨wanted_plain rfl, st_pickF rfl (hd.at_ 8 rfl rfl rfl rfl) rfl⟩) ?_
        intro a9 V9 hm9 hall
        have f28 : Is (.bool false) (a9.eval (.tmp 28)) V9 := hall 22 _ _ rfl rfl
        have hfr := hm9.frame
        simp only [List.take_succ_cons, List.take_zero, List.filterMap_cons, List.filterMap_nil, List.foldl_cons, List.foldl_nil] at hfr
        have hgV9 := GrownX.none2 hm9.grow
        have f28 : a9.eval (.tmp 28) = _ := f28
        rw [f28] at hfr
        generalize a9.eval (.tmp 6) = e6 at hfr
        generalize a9.eval (.tmp 7) = e7 at hfr
        generalize a9.eval (.tmp 8) = e8 at hfr
        generalize a9.eval (.tmp 9) = e9 at hfr
        generalize a9.eval (.tmp 10) = e10 at hfr
        generalize a9.eval (.tmp 11) = e11 at hfr
        generalize a9.eval (.tmp 12) = e12 at hfr
        generalize a9.eval (.tmp 13) = e13 at hfr
        generalize a9.eval (.tmp 14) = e14 at hfr
        generalize a9.eval (.tmp 15) = e15 at hfr
        generalize a9.eval (.tmp 16) = e16 at hfr
        generalize a9.eval (.tmp 17) = e17 at hfr
        generalize a9.eval (.tmp 18) = e18 at hfr
        generalize a9.eval (.tmp 19) = e19 at hfr
        generalize a9.eval (.tmp 20) = e20 at hfr
        generalize a9.eval (.tmp 21) = e21 at hfr
        generalize a9.eval (.tmp 22) = e22 at hfr
        generalize a9.eval (.tmp 23) = e23 at hfr
        generalize a9.eval (.tmp 24) = e24 at hfr
        generalize a9.eval (.tmp 25) = e25 at hfr
        generalize a9.eval (.tmp 26) = e26 at hfr
        generalize a9.eval (.tmp 27) = e27 at hfr
        clear hall hm9
        unfold wpList
        rw [hfr]
        clear hfr
        go_simp
        go_wp2
        go_ret
        exact ⟨by rw [HX.out]; rfl, World.grownBy.trans G0.out hgV9⟩
end Go.Proofs.YtiakkfcjdmecdaaDoor
