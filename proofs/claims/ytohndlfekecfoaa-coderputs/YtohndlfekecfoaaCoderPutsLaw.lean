/-
  The law CoderPuts, walked.
-/
import Derived.Test.YtohndlfekecfoaaCodPuts
import Derived.Test.YtohndlfekecfoaaCoderBackLaw
namespace Go.Proofs.Ytohndlfekecfoaa
set_option maxRecDepth 1000000
open Go.RowKit

theorem fill_next (a b n m : Nat) (h : m < n) : (List.replicate m a ++ List.replicate (n - m) b).set m a = List.replicate (m + 1) a ++ List.replicate (n - (m + 1)) b := by
  obtain ⟨k, rfl⟩ : ∃ k, n = m + 1 + k := ⟨n - (m + 1), by omega⟩
  rw [show m + 1 + k - m = k + 1 by omega, show m + 1 + k - (m + 1) = k by omega]
  rw [List.set_append_right _ _ (by simp)]
  rw [List.replicate_succ (n := k), List.replicate_succ' (n := m)]
  simp
def tri16 : Tri := ⟨beginS, List.replicate 8 1024, List.replicate 16 1024⟩
def Fill (w W : World) (g gc gt : Nat) (t1 t2 : TypeId) (gx ga gh : Nat) (xv : Value) (m n : Nat) : Prop :=
  PS w W g gc gt t1 t2 none tri16 gx ga gh xv beginS (List.replicate m 1024 ++ List.replicate (8 - m) 0) (List.replicate n 1024 ++ List.replicate (16 - n) 0)
structure OkP (x : Tri) (n : Nat) : Prop where
  s : Okc x.s
  c : Okl x.c
  t : Okl x.t
  c8 : x.c.length = 8
  t16 : x.t.length = 16
  len : x.s.out.length ≤ n
section
variable {o : Oper} {a : Act} {w : World}
theorem st_loadW {x : Operand} {g : Nat} {v : Value} {T : Cst} (h : o.op = .load 30 x) (hx : Is (.pointer (some ⟨g, 0, none⟩)) (a.eval x) w) (hr : Row w g 30 [v, .int .i64 (T.low : Int), .int .i64 (T.width : Int)]) : Runs (Is (cV v T)) o a w :=
  ⟨_, ex_load_row h g 30 _ _ hx hr Try.underlying30 rfl (by kernel_rfl), rfl⟩
theorem st_shrN {x y : Operand} {n : Int} {j : Nat} (h : o.op = .binOp .shr 3 x y 3) (hx : Is (.int .i64 n) (a.eval x) w) (hy : Is (.int .i64 (j : Int)) (a.eval y) w) (_ : j ≤ 60) : Runs (Is (.int .i64 (n / 2 ^ j))) o a w := by
  have hx' : a.eval x = .int .i64 n := hx
  have hy' : a.eval y = .int .i64 (j : Int) := hy
  refine ⟨_, ?_, rfl⟩
  simp only [execOp, h, hx', hy']
  simp [go_sem]
theorem st_bit {x : Operand} {n : Int} {j : Nat} (h : o.op = .binOp .and 3 x (.const (.int .i64 1)) 3) (hx : Is (.int .i64 (n / 2 ^ j)) (a.eval x) w) : Runs (Is (.int .i64 ((bitAt n j).toNat : Int))) o a w := by
  have hx' : a.eval x = .int .i64 (n / 2 ^ j) := hx
  have hc : a.eval (.const (.int .i64 1)) = .int .i64 1 := rfl
  refine ⟨.int .i64 (bits .and .i64 (n / 2 ^ j) 1), ?_, by rw [bit_val]; rfl⟩
  simp only [execOp, h, hx', hc]
  simp [go_sem]
theorem st_idxA8 {x y : Operand} {g j : Nat} (h : o.op = .indexAddr 32 x y) (hx : Is (.pointer (some ⟨g, 0, none⟩)) (a.eval x) w) (hy : Is (.int .i64 (j : Int)) (a.eval y) w) (hj : j < 8) : Runs (Is (.pointer (some ⟨g, j, none⟩))) o a w := by
  have hx' : a.eval x = .pointer (some ⟨g, 0, none⟩) := hx
  have hy' : a.eval y = .int .i64 (j : Int) := hy
  have hs : (sizeOf 3).run Try.prog w = .ok 1 w := by kernel_rfl
  refine ⟨_, ?_, rfl⟩
  simp only [execOp, h, hx', hy']
  simp [go_sem, hs, Addr.add]
  rw [if_pos (by omega)]
  split
  · subst_vars; rfl
  · rfl
theorem st_idxA16 {x y : Operand} {g j : Nat} (h : o.op = .indexAddr 33 x y) (hx : Is (.pointer (some ⟨g, 0, none⟩)) (a.eval x) w) (hy : Is (.int .i64 (j : Int)) (a.eval y) w) (hj : j < 16) : Runs (Is (.pointer (some ⟨g, j, none⟩))) o a w := by
  have hx' : a.eval x = .pointer (some ⟨g, 0, none⟩) := hx
  have hy' : a.eval y = .int .i64 (j : Int) := hy
  have hs : (sizeOf 3).run Try.prog w = .ok 1 w := by kernel_rfl
  refine ⟨_, ?_, rfl⟩
  simp only [execOp, h, hx', hy']
  simp [go_sem, hs, Addr.add]
  rw [if_pos (by omega)]
  split
  · subst_vars; rfl
  · rfl
theorem st_loadCh {x : Operand} {g j : Nat} {t : TypeId} {L : List Nat} {u : Value} (h : o.op = .load 40 x) (hx : Is (.pointer (some ⟨g, j, none⟩)) (a.eval x) w) (hr : Row w g t (chV L)) (hc : (chV L)[j]? = some u) : Runs (Is (.agg #[u])) o a w :=
  ⟨_, ex_load_part h g j t (chV L) [u] _ hx hr (fun i v hv => by
    rcases i with _ | i
    · rw [Nat.add_zero, hc]; simpa using hv
    · simp at hv) Try.underlying40 rfl (by kernel_rfl), rfl⟩
theorem st_nei {x y : Operand} {n : Int} (h : o.op = .binOp .neq 3 x y 3) (hx : Is (.int .i64 n) (a.eval x) w) (hy : Is (.int .i64 n) (a.eval y) w) : Runs (Is (.bool false)) o a w := by
  have hx' : a.eval x = .int .i64 n := hx
  have hy' : a.eval y = .int .i64 n := hy
  refine ⟨_, ?_, rfl⟩
  simp only [execOp, h, hx', hy']
  simp [go_sem]
end
/-- A writer of the document's: what a call answers, laid nowhere yet. -/
def CW (T T1 : Cst) (xv : Value) (H : Nat) (v : Value) (W : World) : Prop := ∃ xv', v = cV xv' T1 ∧ Rd W xv' (bytesV T1.out) ∧ (T1.out ≠ [] → ∀ k, xv'.ownBlock = some k → (T.out ≠ [] ∧ xv.ownBlock = some k) ∨ H ≤ k)
theorem CVal.cw {v0 : Value} {T T1 : Cst} {w w' : World} {e : Ending} {H : Nat} (h : CVal v0 T.out T1 w e w') (hH : H ≤ w.heap.size) : ∃ u, e = .returned u ∧ w.grownBy w' none ∧ CW T T1 v0 H u w' := by
  obtain ⟨v, rfl, hr, hg, hs⟩ := h
  exact ⟨_, rfl, hg, v, rfl, hr, fun he k hk => (hs he k hk).imp_right (Nat.le_trans hH)⟩

set_option maxRecDepth 1000000 in
set_option maxHeartbeats 16000000 in
theorem coderPuts_walk (A : Option Addr) (len c : Nat) (l : List Dos) (w : World) (hr : RdD w (.slice A len c) l) (hf : ∀ d ∈ l, FitD d) :
    Calls Try.prog 3 #[.slice A len c] w (Awake w) := by
  by_cases hbig : 300 < len
  · have hd : decide (300 < (len : Int)) = true := by simp; omega
    clear hr
    go_enter Try.func3, Try.ntmps3
    go_wp2_with (go_at_call 4; refine (awake_any _).mono ?_; rintro e w9 ⟨rfl, hg9⟩)
    go_ret
    exact ⟨rfl, hg9⟩
  have hd : decide (300 < (len : Int)) = false := by simp; omega
  have HRD := Lib.hid hr
  have HLN := Lib.hid hr.len.1
  have HF := Lib.hid hf
  have hle : len ≤ 300 := by omega
  clear hr hbig hf
  go_enter Try.func3, Try.ntmps3
  go_wp2_with fail
  refine (begin_any w).mono ?_
  rintro e w1 ⟨g, rfl, ht1, hge1, hg1⟩
  have H1 := Lib.hid (And.intro ht1 (And.intro hge1 hg1))
  clear ht1 hge1 hg1
  go_wp2_with fail
  refine (chances_any 8 8 (by decide) w1).mono ?_
  rintro e w2 ⟨gc, t1, rfl, hr2, hge2, hg2⟩
  have H2 := Lib.hid (show Wt w2 g none beginS ∧ Row w2 gc t1 (chV (List.replicate 8 1024)) ∧ w.grownBy w2 none ∧ gc ≠ g ∧ w.heap.size ≤ g ∧ w.heap.size ≤ gc from ⟨H1.out.1.grown0 hg2, hr2, H1.out.2.2.trans hg2, fun e => by have := H1.out.1.lt; omega, H1.out.2.1, Nat.le_trans H1.out.2.2.size hge2⟩)
  clear hr2 hge2 hg2 H1
  go_wp2_with fail
  refine (chances_any 16 16 (by decide) w2).mono ?_
  rintro e w3 ⟨gt, t2, rfl, hr3, hge3, hg3⟩
  have HS := Lib.hid (show W3s w w3 g gc gt t1 t2 none tri16 from ⟨H2.out.1.grown0 hg3, H2.out.2.1.grown0 hg3, hr3, ⟨H2.out.2.2.2.1, fun e => by have := H2.out.1.lt; omega, fun e => by have := H2.out.2.1.lt; omega, by simp, by simp⟩, ⟨H2.out.2.2.2.2.1, H2.out.2.2.2.2.2, Nat.le_trans H2.out.2.2.1.size hge3, by simp⟩, H2.out.2.2.1.trans hg3⟩)
  clear hr3 hge3 hg3 H2
  go_wp2_with fail
  refine (rbegin_any w3).mono ?_
  rintro e w4 ⟨xv, rfl, hrd4, hg4, _⟩
  obtain ⟨A4, k4, rfl⟩ := hrd4.form
  rw [show (bytesV beginS.out).length = 0 from rfl] at *
  obtain ⟨gx, hgx⟩ : ∃ g, w4.heap.size = g := ⟨_, rfl⟩
  have HS4 := Lib.hid (HS.out.grown0 hg4)
  have HRD4 := Lib.hid hrd4
  clear hrd4 hg4 HS
  obtain ⟨W5, hW5⟩ : ∃ W, w4.alloc (.cells #[.slice none 0 0, .int .i64 0, .int .i64 0] 30) = W := ⟨_, rfl⟩
  have HR5 := Lib.hid (show Row W5 gx 30 [.slice none 0 0, .int .i64 0, .int .i64 0] by rw [← hW5]; exact Row.newAt w4 _ [.slice none 0 0, .int .i64 0, .int .i64 0] hgx)
  have HG5 := Lib.hid (show w4.grownBy W5 none by rw [← hW5]; exact grown_alloc (grown_refl _ _) _)
  have HGX := Lib.hid (show w4.heap.size ≤ gx from by omega)
  unfold cV
  go_wp2_with (refine wpList_store_row _ rfl rfl _ _ 30 rfl gx 30 _ [.slice A4 0 k4, .int .i64 0, .int .i64 4294967295] rfl rfl HR5.out rfl (by simp [Value.oneCell']) (by kernel_rfl) ?_; intro w6 hr6 hg6)
  have hnx : gx ≠ g ∧ gx ≠ gc ∧ gx ≠ gt ∧ (none : Option Nat) ≠ some gx ∧ w.heap.size ≤ gx := ⟨fun e => by have := HS4.out.wt.lt; have := HGX.out; omega, fun e => by have := HS4.out.rc.lt; have := HGX.out; omega, fun e => by have := HS4.out.rt.lt; have := HGX.out; omega, by simp, Nat.le_trans HS4.out.grow.size HGX.out⟩
  have hp6 := (HS4.out.grown0 HG5.out).other hg6 hnx
  obtain ⟨ga, hga⟩ : ∃ g, w6.heap.size = g := ⟨_, rfl⟩
  obtain ⟨W7, hW7⟩ : ∃ W, w6.alloc (.cells #[.int .i64 0, .int .i64 0, .int .i64 0, .int .i64 0, .int .i64 0, .int .i64 0, .int .i64 0, .int .i64 0] 32) = W := ⟨_, rfl⟩
  obtain ⟨W8, hW8⟩ : ∃ W, W7.alloc (.cells #[.int .i64 0, .int .i64 0, .int .i64 0, .int .i64 0, .int .i64 0, .int .i64 0, .int .i64 0, .int .i64 0, .int .i64 0, .int .i64 0, .int .i64 0, .int .i64 0, .int .i64 0, .int .i64 0, .int .i64 0, .int .i64 0] 33) = W := ⟨_, rfl⟩
  rw [hW7, hW8, hga]
  have hr7 : Row W7 ga 32 (numsV (List.replicate 8 0)) := by rw [← hW7]; exact Row.newAt w6 _ [.int .i64 0, .int .i64 0, .int .i64 0, .int .i64 0, .int .i64 0, .int .i64 0, .int .i64 0, .int .i64 0] hga
  have hs7 : W7.heap.size = ga + 1 := by rw [← hW7]; simp [hga]
  have hr8 : Row W8 (ga + 1) 33 (numsV (List.replicate 16 0)) := by rw [← hW8]; exact Row.newAt W7 _ [.int .i64 0, .int .i64 0, .int .i64 0, .int .i64 0, .int .i64 0, .int .i64 0, .int .i64 0, .int .i64 0, .int .i64 0, .int .i64 0, .int .i64 0, .int .i64 0, .int .i64 0, .int .i64 0, .int .i64 0, .int .i64 0] hs7
  have hg7 : w6.grownBy W7 none := by rw [← hW7]; exact grown_alloc (grown_refl _ _) _
  have hg78 : W7.grownBy W8 none := by rw [← hW8]; exact grown_alloc (grown_refl _ _) _
  have hg8 := hg7.trans hg78
  have HPS := Lib.hid (show Fill w W8 g gc gt t1 t2 gx ga (ga + 1) (.slice A4 0 k4) 0 0 from ⟨hp6.grown0 hg8, hr6.grown0 hg8, ((HRD4.out.grown0 HG5.out).keepE (fun he => absurd rfl he) : Rd w6 _ _).grown0 hg8, hr7.grown0 hg78, hr8, ⟨fun e => by have := hr6.lt; omega, fun e => by have := hr6.lt; omega, by omega⟩, hnx, ⟨fun e => by have := hp6.wt.lt; omega, fun e => by have := hp6.rc.lt; omega, fun e => by have := hp6.rt.lt; omega, by simp, by have := hp6.grow.size; omega⟩, ⟨fun e => by have := hp6.wt.lt; omega, fun e => by have := hp6.rc.lt; omega, fun e => by have := hp6.rt.lt; omega, by simp, by have := hp6.grow.size; omega⟩, fun h => absurd rfl h⟩)
  clear hnx hp6 hr6 hg6 hr7 hs7 hr8 hg7 hg78 hg8 hW7 hW8 hga hW5 HR5 HG5 HGX HS4 HRD4 hgx
  generalize ga + 1 = gh at *
  generalize Value.slice A4 0 k4 = xv at *
  go_loopw [36] (fun i W => ∃ m : Nat, m ≤ 8 ∧ i = .int .i64 m ∧ Fill w W g gc gt t1 t2 gx ga gh xv m 0) (fun i _ => 8 - (intOf i).toNat)
  case atStart => exact ⟨0, Nat.zero_le _, rfl, HPS.out⟩
  case round =>
    obtain ⟨m, hm, rfl, hh⟩ := hrel
    have HH := Lib.hid hh
    clear HPS
    by_cases hlt : m < 8
    · have hdk : decide ((m : Int) < 8) = true := by simp; omega
      have hlt' : (m : Int) < 8 := by omega
      have k0 := hh.ra.cell (numsV_at _ m (by simp; omega))
      have f0 := hh.ra.frozen m
      clear hh
      go_wp2
      go_roundw
      case rel => exact ⟨m + 1, by omega, by go_num, by have h := HH.out.setA m 1024; rw [fill_next _ _ _ _ hlt] at h; exact h⟩
      case measure => simp only [intOf]; omega
    · obtain rfl : m = 8 := by omega
      clear hh
      go_wp2
      go_loopw [42] (fun i W => ∃ m : Nat, m ≤ 16 ∧ i = .int .i64 m ∧ Fill w W g gc gt t1 t2 gx ga gh xv 8 m) (fun i _ => 16 - (intOf i).toNat)
      case atStart => exact ⟨0, Nat.zero_le _, rfl, HH.out⟩
      case round =>
        obtain ⟨m, hm, rfl, hh⟩ := hrel
        have HI := Lib.hid hh
        clear HH
        by_cases hlt : m < 16
        · have hdk : decide ((m : Int) < 16) = true := by simp; omega
          have hlt' : (m : Int) < 16 := by omega
          have k0 := hh.rh.cell (numsV_at _ m (by simp; omega))
          have f0 := hh.rh.frozen m
          clear hh
          go_wp2
          go_roundw
          case rel => exact ⟨m + 1, by omega, by go_num, by have h := HI.out.setH m 1024; rw [fill_next _ _ _ _ hlt] at h; exact h⟩
          case measure => simp only [intOf]; omega
        · obtain rfl : m = 16 := by omega
          have HJ := Lib.hid (show PS w wr g gc gt t1 t2 none tri16 gx ga gh xv tri16.s tri16.c tri16.t from hh)
          clear hh HI
          go_wp2
          go_loopw [50] (fun i W => ∃ (k : Nat) (vb : Option Nat) (X : Tri) (xv : Value), k ≤ len ∧ i = .int .i64 k ∧ PS w W g gc gt t1 t2 vb X gx ga gh xv X.s X.c X.t ∧ OkP X (32 * k)) (fun i _ => len - (intOf i).toNat)
          case atStart => exact ⟨0, none, tri16, xv, Nat.zero_le _, rfl, HJ.out, begin_ok, okl_rep 8, okl_rep 16, List.length_replicate, List.length_replicate, Nat.le_refl _⟩
          case round =>
            obtain ⟨k, vb, X, xv, hk, rfl, hh, ho⟩ := hrel
            have HH := Lib.hid hh
            have HO := Lib.hid ho
            clear hh ho HJ
            by_cases hlt : k < len
            · have hdk : decide ((k : Int) < (len : Int)) = true := by simp; omega
              have hk300 : k < 300 := by omega
              obtain ⟨ad, d, rfl, hdl, c0, c1, c2, c3⟩ := (HRD.out.grown0 HH.out.p.grow).step (show k < l.length by rw [HLN.out]; exact hlt)
              have HFD := Lib.hid (HF.out d (by rw [← hdl]; exact List.getElem_mem _))
              obtain ⟨gd, hgd⟩ : ∃ gd, wr.heap.size = gd := ⟨_, rfl⟩
              obtain ⟨vv, kv, nv, bv⟩ := d
              simp only at c0 c1 c2 c3
              obtain ⟨W4, hW4⟩ : ∃ W, wr.alloc (.cells #[.int .i64 vv, .int .i64 kv, .int .i64 nv, .int .i64 bv] 35) = W := ⟨_, rfl⟩
              have hg4 : wr.grownBy W4 none := by rw [← hW4]; exact grown_alloc (grown_refl _ _) _
              have HD4 := Lib.hid (show Row W4 gd 35 [.int .i64 vv, .int .i64 kv, .int .i64 nv, .int .i64 bv] by rw [← hW4]; exact Row.newAt wr _ [.int .i64 vv, .int .i64 kv, .int .i64 nv, .int .i64 bv] hgd)
              have HDN := Lib.hid (show gd ≠ gx ∧ gd ≠ ga ∧ gd ≠ gh ∧ gd ≠ g ∧ gd ≠ gc ∧ gd ≠ gt ∧ vb ≠ some gd from ⟨fun e => by have := HH.out.rx.lt; omega, fun e => by have := HH.out.ra.lt; omega, fun e => by have := HH.out.rh.lt; omega, fun e => by have := HH.out.p.wt.lt; omega, fun e => by have := HH.out.p.rc.lt; omega, fun e => by have := HH.out.p.rt.lt; omega, fun e => by have := HH.out.p.wt.row_lt gd e; omega⟩)
              have H4 := Lib.hid (HH.out.grown0 hg4)
              have e0 := HD4.out.cell (j := 0) rfl
              have e1 := HD4.out.cell (j := 1) rfl
              have e2 := HD4.out.cell (j := 2) rfl
              have e3 := HD4.out.cell (j := 3) rfl
              obtain ⟨B, hB, hB32⟩ : ∃ B : Nat, max (min bv 32) 0 = (B : Int) ∧ B ≤ 32 := ⟨(max (min bv 32) 0).toNat, by omega, by omega⟩
              clear hg4 hdl HH
              have HNX := Lib.hid (show OkP X (32 * (k + 1)) from ⟨HO.out.s, HO.out.c, HO.out.t, HO.out.c8, HO.out.t16, by have := HO.out.len; omega⟩)
              have HLX := Lib.hid (show X.s.out.length ≤ 9600 by have := HO.out.len; omega)
              by_cases hv0 : vv = 0
              · subst hv0
                have q0 : ((0 : Int) == 0) = true := rfl
                by_cases hk0 : kv < 0
                · have d1 : decide (kv < 0) = true := by simpa using hk0
                  go_wp2_with (first | (refine wpList_runs rfl (ex_minc 32 rfl rfl) ?_) | (refine wpList_runs rfl (ex_max0 rfl rfl) ?_; rw [hB]))
                  refine ⟨?_, ?_⟩
                  · repeat apply Exists.intro
                    refine ⟨?_, rfl⟩
                    exact ⟨k + 1, vb, X, xv, by omega, by go_num, H4.out, HNX.out⟩
                  · show len - ((k : Int) + 1).toNat < len - (k : Int).toNat
                    omega
                have d1 : decide (kv < 0) = false := by simpa using hk0
                by_cases hk7 : 7 < kv
                · have d2 : decide (7 < kv) = true := by simpa using hk7
                  go_wp2_with (first | (refine wpList_runs rfl (ex_minc 32 rfl rfl) ?_) | (refine wpList_runs rfl (ex_max0 rfl rfl) ?_; rw [hB]))
                  refine ⟨?_, ?_⟩
                  · repeat apply Exists.intro
                    refine ⟨?_, rfl⟩
                    exact ⟨k + 1, vb, X, xv, by omega, by go_num, H4.out, HNX.out⟩
                  · show len - ((k : Int) + 1).toNat < len - (k : Int).toNat
                    omega
                have d2 : decide (7 < kv) = false := by simpa using hk7
                by_cases hn0 : nv < 0
                · have d3 : decide (nv < 0) = true := by simpa using hn0
                  go_wp2_with (first | (refine wpList_runs rfl (ex_minc 32 rfl rfl) ?_) | (refine wpList_runs rfl (ex_max0 rfl rfl) ?_; rw [hB]))
                  refine ⟨?_, ?_⟩
                  · repeat apply Exists.intro
                    refine ⟨?_, rfl⟩
                    exact ⟨k + 1, vb, X, xv, by omega, by go_num, H4.out, HNX.out⟩
                  · show len - ((k : Int) + 1).toNat < len - (k : Int).toNat
                    omega
                have d3 : decide (nv < 0) = false := by simpa using hn0
                by_cases hn1 : 1 < nv
                · have d4 : decide (1 < nv) = true := by simpa using hn1
                  go_wp2_with (first | (refine wpList_runs rfl (ex_minc 32 rfl rfl) ?_) | (refine wpList_runs rfl (ex_max0 rfl rfl) ?_; rw [hB]))
                  refine ⟨?_, ?_⟩
                  · repeat apply Exists.intro
                    refine ⟨?_, rfl⟩
                    exact ⟨k + 1, vb, X, xv, by omega, by go_num, H4.out, HNX.out⟩
                  · show len - ((k : Int) + 1).toNat < len - (k : Int).toNat
                    omega
                have d4 : decide (1 < nv) = false := by simpa using hn1
                obtain ⟨j, rfl⟩ : ∃ j : Nat, kv = j := ⟨kv.toNat, by omega⟩
                have hj8 : j < 8 := by omega
                have hji : (j : Int) < 8 := by omega
                obtain ⟨bt, rfl, hbd⟩ : ∃ bt : Bool, nv = (bt.toNat : Int) ∧ decide (nv ≠ 0) = bt := by
                  by_cases h0 : nv = 0
                  · exact ⟨false, h0, by simp [h0]⟩
                  · exact ⟨true, by show nv = 1; omega, by simp [h0]⟩
                have hjL : j < X.c.length := by rw [HO.out.c8]; exact hj8
                have HBT := Lib.hid (fun W (hW : Wt W g vb X.s) (hR : Row W gc t1 (chV X.c)) => bit_at g vb X.s gc j t1 X.c (bt.toNat : Int) W hW HO.out.s (by have := HLX.out; omega) hR hjL HO.out.c ⟨H4.out.p.ne.1, H4.out.p.ne.2.2.2.1⟩)
                rw [hbd] at HBT
                have HPT := Lib.hid (fun (W' : World) (hr' : Rd W' xv (bytesV X.s.out)) => (show Calls Try.prog 9 #[cV xv X.s, .int .i64 ((X.c.getD j 0 : Nat) : Int), .int .i64 (bt.toNat : Int)] W' (CVal xv X.s.out (bitS X.s X.c j bt).1 W') from rbit_any xv X.s (X.c.getD j 0) bt W' hr' HO.out.s (HO.out.c.at_ hjL) (by have := HLX.out; omega)))
                have HSW := Lib.hid (fun W' => rsaw_any (X.c.getD j 0) bt (HO.out.c.at_ hjL) W')
                have HCJ := Lib.hid (numsV_at X.c j hjL)
                have HNS := Lib.hid (show (bitS X.s X.c j bt).2 = X.c.set j (saw (X.c.getD j 0) bt) from rfl)
                have HOK := Lib.hid (show OkP ⟨(bitS X.s X.c j bt).1, (bitS X.s X.c j bt).2, X.t⟩ (32 * (k + 1)) from ⟨(bitS_ok bt HO.out.s HO.out.c hjL).1, (bitS_ok bt HO.out.s HO.out.c hjL).2, HO.out.t, (bitS_len X.s X.c j bt).trans HO.out.c8, HO.out.t16, by have h1 := putS_len X.s (X.s.width / 2048 * X.c.getD j 0) bt; have h2 := HO.out.len; show (putS X.s (X.s.width / 2048 * X.c.getD j 0) bt).out.length ≤ _; omega⟩)
                have HJ8 := Lib.hid hj8
                generalize bitS X.s X.c j bt = SL at *
                generalize X.c.getD j 0 = cj at *
                have e1d : W4.drew.cell? ⟨gd, 1, none⟩ = some (.int .i64 (j : Int)) := e1
                have e2d : W4.drew.cell? ⟨gd, 2, none⟩ = some (.int .i64 (bt.toNat : Int)) := e2
                have H4d := Lib.hid (H4.out.grown0 (grown_drew (grown_refl W4 none)))
                have HD4d := Lib.hid (HD4.out.grown0 (grown_drew (grown_refl W4 none)))
                clear hbd hjL hk0 hk7 hn0 hn1
                go_wp2_with (first | (refine wpList_runs rfl (ex_minc 32 rfl rfl) ?_) | (refine wpList_runs rfl (ex_max0 rfl rfl) ?_; rw [hB]))
                refine wp_region_still_tail 7 (by kernel_rfl) (by kernel_rfl) ?_
                change wpStill _ _ W4.drew (fun a' => wpList _ _ _ _ a' W4.drew) _ _
                generalize W4.drew = W6 at *
                simp only [List.take_succ_cons, List.take_zero, List.drop_succ_cons, List.drop_zero]
                repeat still_step
                refine wpStill_nil ?_
                go_wp2_with fail
                refine (HBT.out W6 H4d.out.p.wt H4d.out.p.rc).mono ?_
                rintro e w7 ⟨rfl, vb7, ht7, hr7, hn7⟩
                have H7 := Lib.hid (show PS w w7 g gc gt t1 t2 vb7 ⟨SL.1, SL.2, X.t⟩ gx ga gh xv X.s X.c X.t from H4d.out.prog (H4d.out.p.bit ht7 hr7 hn7) hn7 (fun b hb => by
                  rcases List.mem_cons.1 hb with h | h
                  · exact .inl h
                  · exact .inr (.inl (List.mem_singleton.1 h))))
                have HD7 := Lib.hid (HD4d.out.wn hn7 (fun h => by
                  rcases List.mem_cons.1 h with h | h
                  · exact HDN.out.2.2.2.1 h
                  · exact HDN.out.2.2.2.2.1 (List.mem_singleton.1 h)) (fun e => HDN.out.2.2.2.2.2.2 e.symm))
                clear ht7 hr7 hn7 e1d e2d e0 e1 e2 e3 H4 HD4 H4d HD4d HBT hW4 hgd c0 c1 c2 c3
                go_wp2
                refine wp_region_walk3 8 [] dis_nil (by kernel_rfl) (by kernel_rfl) (by kernel_rfl) ?_
                simp only [List.take_succ_cons, List.take_zero, List.drop_succ_cons, List.drop_zero]
                refine Walk.val (G := Is (cV xv X.s)) (stays_is _ _) rfl rfl (fun a w hm hd => ⟨wanted_plain rfl, st_loadW rfl (by rw [hm.outer 6 (by kernel_rfl)]; rfl) (H7.out.rx.grown0 (GrownX.none2 hm.grow))⟩) ?_
                refine Walk.val (G := Is (.pointer (some ⟨gd, 1, none⟩))) (stays_is _ _) rfl rfl (fun a w hm hd => ⟨wanted_plain rfl, st_fieldD1 rfl (by rw [hm.outer 12 (by kernel_rfl)]; rfl)⟩) ?_
                refine Walk.val (G := Is (.int .i64 (j : Int))) (stays_is _ _) rfl rfl (fun a w hm hd => ⟨wanted_plain rfl, st_cell rfl (fun _ => by kernel_rfl) (hd.at_ 1 rfl rfl rfl rfl) ((HD7.out.grown0 (GrownX.none2 hm.grow)).cell (j := 1) rfl)⟩) ?_
                refine Walk.val (G := Is (.pointer (some ⟨ga, j, none⟩))) (stays_is _ _) rfl rfl (fun a w hm hd => ⟨wanted_plain rfl, st_idxA8 rfl (by rw [hm.outer 7 (by kernel_rfl)]; rfl) (hd.at_ 2 rfl rfl rfl rfl) HJ8.out⟩) ?_
                refine Walk.val (G := Is (.int .i64 (cj : Int))) (stays_is _ _) rfl rfl (fun a w hm hd => ⟨wanted_plain rfl, st_cell rfl (fun _ => by kernel_rfl) (hd.at_ 3 rfl rfl rfl rfl) ((H7.out.ra.grown0 (GrownX.none2 hm.grow)).cell HCJ.out)⟩) ?_
                refine Walk.val (G := Is (.pointer (some ⟨gd, 2, none⟩))) (stays_is _ _) rfl rfl (fun a w hm hd => ⟨wanted_plain rfl, st_fieldD2 rfl (by rw [hm.outer 12 (by kernel_rfl)]; rfl)⟩) ?_
                refine Walk.val (G := Is (.int .i64 (bt.toNat : Int))) (stays_is _ _) rfl rfl (fun a w hm hd => ⟨wanted_plain rfl, st_cell rfl (fun _ => by kernel_rfl) (hd.at_ 5 rfl rfl rfl rfl) ((HD7.out.grown0 (GrownX.none2 hm.grow)).cell (j := 2) rfl)⟩) ?_
                refine Walk.call (G := CW X.s SL.1 xv w7.heap.size) (fun _ _ _ _ _ ⟨x, h1, h2, h3⟩ hg => ⟨x, h1, h2.grown0 hg, h3⟩) rfl 9 rfl (fun a w hm ha hd => ⟨wanted_plain rfl, _, ex_call3 Try.func9 (by kernel_rfl) (by kernel_rfl) rfl, by
                  rw [show a.eval (.tmp 88) = _ from (hd.at_ 0 rfl rfl rfl rfl), show a.eval (.tmp 92) = _ from (hd.at_ 4 rfl rfl rfl rfl), show a.eval (.tmp 94) = _ from (hd.at_ 6 rfl rfl rfl rfl)]
                  refine (HPT.out w (H7.out.rd.grown0 (GrownX.none2 hm.grow))).mono ?_
                  intro e w' h
                  exact h.cw hm.grow.size⟩) ?_
                intro a7 V7 hm7 hall
                obtain ⟨zv, f95, hzr, hzs⟩ : CW X.s SL.1 xv w7.heap.size (a7.eval (.tmp 95)) V7 := hall 7 _ _ rfl rfl
                obtain ⟨Az, cz, rfl⟩ := hzr.form
                have x6 : a7.eval (.tmp 6) = .pointer (some ⟨gx, 0, none⟩) := by rw [hm7.outer 6 (by kernel_rfl)]; rfl
                have hg7 := GrownX.none2 hm7.grow
                have hfr := hm7.frame
                simp only [List.take_succ_cons, List.take_zero, List.filterMap_cons, List.filterMap_nil, List.foldl_cons, List.foldl_nil] at hfr
                rw [f95] at hfr
                generalize a7.eval (.tmp 88) = e88 at hfr
                generalize a7.eval (.tmp 89) = e89 at hfr
                generalize a7.eval (.tmp 90) = e90 at hfr
                generalize a7.eval (.tmp 91) = e91 at hfr
                generalize a7.eval (.tmp 92) = e92 at hfr
                generalize a7.eval (.tmp 93) = e93 at hfr
                generalize a7.eval (.tmp 94) = e94 at hfr
                clear hall hm7
                refine wpList_store_row _ rfl rfl (.tmp 6) (.tmp 95) 30 rfl gx 30 _ [.slice Az _ cz, .int .i64 (SL.1.low : Int), .int .i64 (SL.1.width : Int)] x6 f95 (H7.out.rx.grown0 hg7) rfl (by simp [Value.oneCell']) (by kernel_rfl) ?_
                intro w8 hr8 hg8
                have HG8 := Lib.hid (And.intro hg7 hg8)
                have H8 := Lib.hid (H7.out.ref hg7 hzr hzs hr8 hg8)
                clear hzr hzs hr8 hg8 hg7 x6 f95
                unfold wpList
                rw [hfr]
                clear hfr
                go_simp
                have HD8 := Lib.hid ((HD7.out.grown0 HG8.out.1).grown HG8.out.2 (fun e => by cases e; exact HDN.out.1 rfl))
                have HD8d := Lib.hid (HD8.out.grown0 (grown_drew (grown_refl w8 none)))
                have H8d := Lib.hid (H8.out.grown0 (grown_drew (grown_refl w8 none)))
                have k1 := HD8d.out.cell (j := 1) rfl
                have k2 := HD8d.out.cell (j := 2) rfl
                have k3 := H8d.out.ra.cell HCJ.out
                have k4 := H8d.out.ra.frozen j
                go_wp2
                refine wp_region_still_tail 10 (by kernel_rfl) (by kernel_rfl) ?_
                change wpStill _ _ w8.drew (fun a' => wpList _ _ _ _ a' w8.drew) _ _
                generalize w8.drew = W9 at *
                simp only [List.take_succ_cons, List.take_zero, List.drop_succ_cons, List.drop_zero]
                repeat still_step
                still_call (HSW.out _)
                repeat still_step
                refine wpStill_nil ?_
                have H9 := Lib.hid (show PS w (W9.setCell ⟨ga, j, none⟩ (.int .i64 ((saw cj bt : Nat) : Int))) g gc gt t1 t2 vb7 ⟨SL.1, SL.2, X.t⟩ gx ga gh (.slice Az _ cz) SL.1 SL.2 X.t by have := H8d.out.setA j (saw cj bt); rw [← HNS.out] at this; exact this)
                go_wp2
                refine ⟨?_, ?_⟩
                · repeat apply Exists.intro
                  refine ⟨?_, rfl⟩
                  exact ⟨k + 1, vb7, ⟨SL.1, SL.2, X.t⟩, _, by omega, by go_num, H9.out, HOK.out⟩
                · show len - ((k : Int) + 1).toNat < len - (k : Int).toNat
                  omega
              by_cases hv1 : vv = 1
              · have q0 : ((1 : Int) == 0) = false := rfl
                have q1 : ((1 : Int) == 1) = true := rfl
                have HEV := Lib.hid (even_at g vb X.s nv B W4 H4.out.p.wt HO.out.s (by have := HLX.out; omega) hB32 HFD.out.n)
                have HEO := Lib.hid (show Okc (evenS X.s nv B) ∧ (evenS X.s nv B).out.length ≤ X.s.out.length + B from ⟨evenS_ok B HO.out.s, evenS_len nv B X.s⟩)
                have hwB : IntKind.i64.wrap ((B : Int) - 1) = (B : Int) - 1 := by rw [IntKind.wrap_i64]; omega
                subst hv1
                clear hv0
                go_wp2_with (first | (refine wpList_runs rfl (ex_minc 32 rfl rfl) ?_) | (refine wpList_runs rfl (ex_max0 rfl rfl) ?_; rw [hB]))
                refine HEV.out.mono ?_
                rintro e w5 ⟨rfl, vb5, ht5, hn5⟩
                have H5 := Lib.hid (show PS w w5 g gc gt t1 t2 vb5 ⟨evenS X.s nv B, X.c, X.t⟩ gx ga gh xv X.s X.c X.t from H4.out.prog (H4.out.p.even ht5 hn5) hn5 (fun b hb => .inl (List.mem_singleton.1 hb)))
                have HD5 := Lib.hid (HD4.out.wn hn5 (by simpa using HDN.out.2.2.2.1) (fun e => HDN.out.2.2.2.2.2.2 e.symm))
                clear ht5 hn5 HEV e0 e1 e2 e3 H4 HD4 hB c0 c1 c2 c3 hW4 hgd
                go_wp2
                go_loopw [14] (fun i W => ∃ (m : Nat) (T : Cst) (yv : Value), m ≤ B ∧ i = .int .i64 ((m : Int) - 1) ∧ (Okc T ∧ T.out.length ≤ 9600 + (B - m) ∧ evenS T nv m = evenS X.s nv B) ∧ PS w W g gc gt t1 t2 vb5 ⟨evenS X.s nv B, X.c, X.t⟩ gx ga gh yv T X.c X.t ∧ Row W gd 35 [.int .i64 1, .int .i64 kv, .int .i64 nv, .int .i64 bv]) (fun i _ => (intOf i + 1).toNat)
                case atStart => exact ⟨B, X.s, xv, Nat.le_refl _, rfl, ⟨HO.out.s, by have := HLX.out; omega, rfl⟩, H5.out, HD5.out⟩
                case round =>
                  obtain ⟨m, T, yv, hm, rfl, hot, hht, hdd⟩ := hrel
                  have HOT := Lib.hid hot
                  have HHT := Lib.hid hht
                  have HDD := Lib.hid hdd
                  clear hot hht hdd H5 HD5
                  cases m with
                  | zero =>
                    have HE := Lib.hid (show T = evenS X.s nv B from HOT.out.2.2)
                    rw [HE.out] at HHT
                    go_wp2
                    -- ROUNDEND: the walk leaves the outer loop's round end raw
                    refine ⟨?_, ?_⟩
                    · repeat apply Exists.intro
                      refine ⟨?_, rfl⟩
                      exact ⟨k + 1, vb5, ⟨evenS X.s nv B, X.c, X.t⟩, yv, by omega, by go_num, HHT.out, ⟨HEO.out.1, HO.out.c, HO.out.t, HO.out.c8, HO.out.t16, by have h1 := HEO.out.2; have h2 := HO.out.len; show (evenS X.s nv B).out.length ≤ _; omega⟩⟩
                    · show len - ((k : Int) + 1).toNat < len - (k : Int).toNat
                      omega
                  | succ j =>
                    rw [show ((j + 1 : Nat) : Int) - 1 = (j : Int) by omega]
                    have HJ32 := Lib.hid (show j ≤ 60 by omega)
                    have HNX2 := Lib.hid (show Okc (putS T (T.width / 2) (bitAt nv j)) ∧ (putS T (T.width / 2) (bitAt nv j)).out.length ≤ 9600 + (B - j) ∧ evenS (putS T (T.width / 2) (bitAt nv j)) nv j = evenS X.s nv B from ⟨putS_ok HOT.out.1 (even_ok HOT.out.1), by have := putS_len T (T.width / 2) (bitAt nv j); have := HOT.out.2.1; omega, HOT.out.2.2⟩)
                    have HPT := Lib.hid (fun (W' : World) (hr' : Rd W' yv (bytesV T.out)) => reven_any yv T (bitAt nv j) W' hr' HOT.out.1 (by have := HOT.out.2.1; omega))
                    obtain ⟨T1, hT1⟩ : ∃ T1, putS T (T.width / 2) (bitAt nv j) = T1 := ⟨_, rfl⟩
                    rw [hT1] at HNX2 HPT
                    clear hT1
                    go_wp2
                    refine wp_region_walk3 7 [] dis_nil (by kernel_rfl) (by kernel_rfl) (by kernel_rfl) ?_
                    simp only [List.take_succ_cons, List.take_zero, List.drop_succ_cons, List.drop_zero]
                    refine Walk.val (G := Is (cV yv T)) (stays_is _ _) rfl rfl (fun a w hm hd => ⟨wanted_plain rfl, st_loadW rfl (by rw [hm.outer 6 (by kernel_rfl)]; rfl) (HHT.out.rx.grown0 (GrownX.none2 hm.grow))⟩) ?_
                    refine Walk.val (G := Is (.pointer (some ⟨gd, 2, none⟩))) (stays_is _ _) rfl rfl (fun a w hm hd => ⟨wanted_plain rfl, st_fieldD2 rfl (by rw [hm.outer 12 (by kernel_rfl)]; rfl)⟩) ?_
                    refine Walk.val (G := Is (.int .i64 nv)) (stays_is _ _) rfl rfl (fun a w hm hd => ⟨wanted_plain rfl, st_cell rfl (fun _ => by kernel_rfl) (hd.at_ 1 rfl rfl rfl rfl) ((HDD.out.grown0 (GrownX.none2 hm.grow)).cell (j := 2) rfl)⟩) ?_
                    refine Walk.val (G := Is (.int .i64 (j : Int))) (stays_is _ _) rfl rfl (fun a w hm hd => ⟨wanted_plain rfl, st_move rfl (by rw [hm.outer 14 (by kernel_rfl)]; rfl)⟩) ?_
                    refine Walk.val (G := Is (.int .i64 (nv / 2 ^ j))) (stays_is _ _) rfl rfl (fun a w hm hd => ⟨wanted_plain rfl, st_shrN rfl (hd.at_ 2 rfl rfl rfl rfl) (hd.at_ 3 rfl rfl rfl rfl) HJ32.out⟩) ?_
                    refine Walk.val (G := Is (.int .i64 ((bitAt nv j).toNat : Int))) (stays_is _ _) rfl rfl (fun a w hm hd => ⟨wanted_plain rfl, st_bit rfl (hd.at_ 4 rfl rfl rfl rfl)⟩) ?_
                    refine Walk.call (G := CW T T1 yv wr.heap.size) (fun _ _ _ _ _ ⟨x, h1, h2, h3⟩ hg => ⟨x, h1, h2.grown0 hg, h3⟩) rfl 12 rfl (fun a w hm ha hd => ⟨wanted_plain rfl, _, ex_call2 Try.func12 (by kernel_rfl) (by kernel_rfl) rfl, by
                      rw [show a.eval (.tmp 119) = _ from (hd.at_ 0 rfl rfl rfl rfl), show a.eval (.tmp 124) = _ from (hd.at_ 5 rfl rfl rfl rfl)]
                      refine (HPT.out w (HHT.out.rd.grown0 (GrownX.none2 hm.grow))).mono ?_
                      intro e w' h
                      exact h.cw hm.grow.size⟩) ?_
                    intro a7 V7 hm7 hall
                    obtain ⟨zv, f125, hzr, hzs⟩ : CW T T1 yv wr.heap.size (a7.eval (.tmp 125)) V7 := hall 6 _ _ rfl rfl
                    obtain ⟨Az, cz, rfl⟩ := hzr.form
                    have x6 : a7.eval (.tmp 6) = .pointer (some ⟨gx, 0, none⟩) := by rw [hm7.outer 6 (by kernel_rfl)]; rfl
                    have hg7 := GrownX.none2 hm7.grow
                    have hfr := hm7.frame
                    simp only [List.take_succ_cons, List.take_zero, List.filterMap_cons, List.filterMap_nil, List.foldl_cons, List.foldl_nil] at hfr
                    rw [f125] at hfr
                    generalize a7.eval (.tmp 119) = e119 at hfr
                    generalize a7.eval (.tmp 120) = e120 at hfr
                    generalize a7.eval (.tmp 121) = e121 at hfr
                    generalize a7.eval (.tmp 122) = e122 at hfr
                    generalize a7.eval (.tmp 123) = e123 at hfr
                    generalize a7.eval (.tmp 124) = e124 at hfr
                    clear hall hm7
                    refine wpList_store_row _ rfl rfl (.tmp 6) (.tmp 125) 30 rfl gx 30 _ [.slice Az _ cz, .int .i64 (T1.low : Int), .int .i64 (T1.width : Int)] x6 f125 (HHT.out.rx.grown0 hg7) rfl (by simp [Value.oneCell']) (by kernel_rfl) ?_
                    intro w8 hr8 hg8
                    have HG8 := Lib.hid (And.intro hg7 hg8)
                    have H6 := Lib.hid (HHT.out.ref hg7 hzr hzs hr8 hg8)
                    clear hzr hzs hr8 hg8 hg7 x6 f125
                    unfold wpList
                    rw [hfr]
                    clear hfr
                    go_simp
                    have HD6 := Lib.hid ((HDD.out.grown0 HG8.out.1).grown HG8.out.2 (fun e => by cases e; exact HDN.out.1 rfl))
                    go_wp2
                    go_roundw
                    case rel => exact ⟨j, T1, _, by omega, by go_num, HNX2.out, H6.out, HD6.out⟩
                    case measure => simp only [intOf]; omega
              by_cases hv2 : vv = 2
              · subst hv2
                have q0 : ((2 : Int) == 0) = false := rfl
                have q1 : ((2 : Int) == 1) = false := rfl
                have q2 : ((2 : Int) == 2) = true := rfl
                obtain ⟨C, hC, hC4⟩ : ∃ C : Nat, min (B : Int) 4 = (C : Int) ∧ C ≤ 4 := ⟨min B 4, by omega, by omega⟩
                have hC16 : 2 ^ C ≤ 16 := Nat.pow_le_pow_right (n := 2) (by decide) hC4
                have HTR := Lib.hid (tree_at g vb X.s gt t2 X.t 16 16 nv C W4 H4.out.p.wt HO.out.s (by have := HLX.out; omega) H4.out.p.rt HO.out.t16 HO.out.t ⟨H4.out.p.ne.2.1, H4.out.p.ne.2.2.2.2⟩ (by omega) hC16 (by decide) HFD.out.n)
                have hTL := treeS_len nv C 1 X.s X.t
                have hTO := treeS_ok nv C 1 X.s X.t HO.out.s HO.out.t (by rw [HO.out.t16]; omega)
                obtain ⟨TS, hTS⟩ : ∃ TS, treeS X.s X.t nv C 1 = TS := ⟨_, rfl⟩
                rw [hTS] at hTL hTO HTR
                have HOK := Lib.hid (show OkP ⟨TS.1, X.c, TS.2⟩ (32 * (k + 1)) from ⟨hTO.1, HO.out.c, hTO.2, HO.out.c8, hTL.1.trans HO.out.t16, by have h1 := hTL.2; have h2 := HO.out.len; show TS.1.out.length ≤ _; omega⟩)
                have HTS := Lib.hid hTS
                have HC4 := Lib.hid (And.intro hC4 hC16)
                clear hTL hTO hTS hv0 hv1
                go_wp2_with (first | (refine wpList_runs rfl (ex_minc 32 rfl rfl) ?_) | (refine wpList_runs rfl (ex_max0 rfl rfl) ?_; rw [hB]) | (refine wpList_runs rfl (ex_minc 4 rfl rfl) ?_; rw [hC]))
                refine HTR.out.mono ?_
                rintro e w5 ⟨rfl, vb5, ht5, hT5, hn5⟩
                have H5 := Lib.hid (show PS w w5 g gc gt t1 t2 vb5 ⟨TS.1, X.c, TS.2⟩ gx ga gh xv X.s X.c X.t from H4.out.prog (H4.out.p.tree ht5 hT5 hn5) hn5 (fun b hb => by
                  rcases List.mem_cons.1 hb with h | h
                  · exact .inl h
                  · exact .inr (.inr (List.mem_singleton.1 h))))
                have HD5 := Lib.hid (HD4.out.wn hn5 (fun h => by
                  rcases List.mem_cons.1 h with h | h
                  · exact HDN.out.2.2.2.1 h
                  · exact HDN.out.2.2.2.2.2.1 (List.mem_singleton.1 h)) (fun e => HDN.out.2.2.2.2.2.2 e.symm))
                clear ht5 hT5 hn5 HTR e0 e1 e2 e3 H4 HD4 hB hC c0 c1 c2 c3 hW4 hgd
                go_wp2
                go_loopw [15, 16] (fun pl i W => ∃ (m p : Nat) (T : Cst) (ct : List Nat) (yv : Value), m ≤ C ∧ i = .int .i64 ((m : Int) - 1) ∧ pl = .int .i64 (p : Int) ∧ (Okc T ∧ Okl ct ∧ ct.length = 16 ∧ (p + 1) * 2 ^ m ≤ 2 * 16 ∧ T.out.length ≤ 9600 + (4 - m) ∧ treeS T ct nv m p = TS) ∧ PS w W g gc gt t1 t2 vb5 ⟨TS.1, X.c, TS.2⟩ gx ga gh yv T X.c ct ∧ Row W gd 35 [.int .i64 2, .int .i64 kv, .int .i64 nv, .int .i64 bv]) (fun _ i _ => (intOf i + 1).toNat)
                case atStart => exact ⟨C, 1, X.s, X.t, xv, Nat.le_refl _, rfl, rfl, ⟨HO.out.s, HO.out.t, HO.out.t16, by have := HC4.out.2; omega, by have := HLX.out; omega, HTS.out⟩, H5.out, HD5.out⟩
                case round =>
                  obtain ⟨m, p, T, ct, yv, hm, rfl, rfl, hot, hht, hdd⟩ := hrel
                  have HOT := Lib.hid hot
                  have HHT := Lib.hid hht
                  have HDD := Lib.hid hdd
                  clear hot hht hdd H5 HD5
                  cases m with
                  | zero =>
                    obtain ⟨rfl, rfl⟩ : T = TS.1 ∧ ct = TS.2 := ⟨congrArg Prod.fst HOT.out.2.2.2.2.2, congrArg Prod.snd HOT.out.2.2.2.2.2⟩
                    go_wp2
                    refine ⟨?_, ?_⟩
                    · repeat apply Exists.intro
                      refine ⟨?_, rfl⟩
                      exact ⟨k + 1, vb5, ⟨TS.1, X.c, TS.2⟩, yv, by omega, by go_num, HHT.out, HOK.out⟩
                    · show len - ((k : Int) + 1).toNat < len - (k : Int).toNat
                      omega
                  | succ j =>
                    rw [show ((j + 1 : Nat) : Int) - 1 = (j : Int) by omega]
                    have hp16 : p < 16 := tree_lt HOT.out.2.2.2.1
                    have hpL : p < ct.length := by rw [HOT.out.2.2.1]; exact hp16
                    have HN := Lib.hid (show Okc (bitS T ct p (bitAt nv j)).1 ∧ Okl (bitS T ct p (bitAt nv j)).2 ∧ (bitS T ct p (bitAt nv j)).2.length = 16 ∧ (2 * p + (bitAt nv j).toNat + 1) * 2 ^ j ≤ 2 * 16 ∧ (bitS T ct p (bitAt nv j)).1.out.length ≤ 9600 + (4 - j) ∧ treeS (bitS T ct p (bitAt nv j)).1 (bitS T ct p (bitAt nv j)).2 nv j (2 * p + (bitAt nv j).toNat) = TS from
                      ⟨(bitS_ok _ HOT.out.1 HOT.out.2.1 hpL).1, (bitS_ok _ HOT.out.1 HOT.out.2.1 hpL).2, (bitS_len _ _ _ _).trans HOT.out.2.2.1, tree_next _ HOT.out.2.2.2.1, by
                        have h1 := putS_len T (T.width / 2048 * ct.getD p 0) (bitAt nv j)
                        have h2 := HOT.out.2.2.2.2.1
                        have h3 := HC4.out.1
                        show (putS T (T.width / 2048 * ct.getD p 0) (bitAt nv j)).out.length ≤ _
                        omega, HOT.out.2.2.2.2.2⟩)
                    have hbv : bits .and .i64 (nv / 2 ^ j) 1 = ((bitAt nv j).toNat : Int) := bit_val nv j
                    have HPT := Lib.hid (fun (W' : World) (hr' : Rd W' yv (bytesV T.out)) => (show Calls Try.prog 9 #[cV yv T, .int .i64 ((ct.getD p 0 : Nat) : Int), .int .i64 ((bitAt nv j).toNat : Int)] W' (CVal yv T.out (bitS T ct p (bitAt nv j)).1 W') from rbit_any yv T (ct.getD p 0) (bitAt nv j) W' hr' HOT.out.1 (HOT.out.2.1.at_ hpL) (by have := HOT.out.2.2.2.2.1; omega)))
                    have HSW := Lib.hid (fun W' => rsaw_any (ct.getD p 0) (bitAt nv j) (HOT.out.2.1.at_ hpL) W')
                    have HCP := Lib.hid (numsV_at ct p hpL)
                    have HNS := Lib.hid (show (bitS T ct p (bitAt nv j)).2 = ct.set p (saw (ct.getD p 0) (bitAt nv j)) from rfl)
                    have HP16 := Lib.hid hp16
                    have hb1 : (bitAt nv j).toNat ≤ 1 := by cases bitAt nv j <;> decide
                    have k2 := HDD.out.cell (j := 2) rfl
                    clear hpL
                    generalize bitAt nv j = bt at *
                    generalize bitS T ct p bt = SL at *
                    generalize ct.getD p 0 = cp at *
                    have hw1 : wrap64 (2 * (p : Int)) = 2 * (p : Int) := by unfold wrap64; omega
                    have hw2 : wrap64 (2 * (p : Int) + (bt.toNat : Int)) = 2 * (p : Int) + (bt.toNat : Int) := by unfold wrap64; omega
                    go_wp2
                    refine wp_region_walk3 6 [] dis_nil (by kernel_rfl) (by kernel_rfl) (by kernel_rfl) ?_
                    simp only [List.take_succ_cons, List.take_zero, List.drop_succ_cons, List.drop_zero]
                    refine Walk.val (G := Is (cV yv T)) (stays_is _ _) rfl rfl (fun a w hm hd => ⟨wanted_plain rfl, st_loadW rfl (by rw [hm.outer 6 (by kernel_rfl)]; rfl) (HHT.out.rx.grown0 (GrownX.none2 hm.grow))⟩) ?_
                    refine Walk.val (G := Is (.int .i64 (p : Int))) (stays_is _ _) rfl rfl (fun a w hm hd => ⟨wanted_plain rfl, st_move rfl (by rw [hm.outer 15 (by kernel_rfl)]; rfl)⟩) ?_
                    refine Walk.val (G := Is (.pointer (some ⟨gh, p, none⟩))) (stays_is _ _) rfl rfl (fun a w hm hd => ⟨wanted_plain rfl, st_idxA16 rfl (by rw [hm.outer 8 (by kernel_rfl)]; rfl) (hd.at_ 1 rfl rfl rfl rfl) HP16.out⟩) ?_
                    refine Walk.val (G := Is (.int .i64 (cp : Int))) (stays_is _ _) rfl rfl (fun a w hm hd => ⟨wanted_plain rfl, st_cell rfl (fun _ => by kernel_rfl) (hd.at_ 2 rfl rfl rfl rfl) ((HHT.out.rh.grown0 (GrownX.none2 hm.grow)).cell HCP.out)⟩) ?_
                    refine Walk.val (G := Is (.int .i64 (bt.toNat : Int))) (stays_is _ _) rfl rfl (fun a w hm hd => ⟨wanted_plain rfl, st_move rfl (by rw [hm.outer 17 (by kernel_rfl)]; rfl)⟩) ?_
                    refine Walk.call (G := CW T SL.1 yv wr.heap.size) (fun _ _ _ _ _ ⟨x, h1, h2, h3⟩ hg => ⟨x, h1, h2.grown0 hg, h3⟩) rfl 9 rfl (fun a w hm ha hd => ⟨wanted_plain rfl, _, ex_call3 Try.func9 (by kernel_rfl) (by kernel_rfl) rfl, by
                      rw [show a.eval (.tmp 147) = _ from (hd.at_ 0 rfl rfl rfl rfl), show a.eval (.tmp 150) = _ from (hd.at_ 3 rfl rfl rfl rfl), show a.eval (.tmp 151) = _ from (hd.at_ 4 rfl rfl rfl rfl)]
                      refine (HPT.out w (HHT.out.rd.grown0 (GrownX.none2 hm.grow))).mono ?_
                      intro e w' h
                      exact h.cw hm.grow.size⟩) ?_
                    intro a7 V7 hm7 hall
                    obtain ⟨zv, f152, hzr, hzs⟩ : CW T SL.1 yv wr.heap.size (a7.eval (.tmp 152)) V7 := hall 5 _ _ rfl rfl
                    obtain ⟨Az, cz, rfl⟩ := hzr.form
                    have x6 : a7.eval (.tmp 6) = .pointer (some ⟨gx, 0, none⟩) := by rw [hm7.outer 6 (by kernel_rfl)]; rfl
                    have hg7 := GrownX.none2 hm7.grow
                    have hfr := hm7.frame
                    simp only [List.take_succ_cons, List.take_zero, List.filterMap_cons, List.filterMap_nil, List.foldl_cons, List.foldl_nil] at hfr
                    rw [f152] at hfr
                    generalize a7.eval (.tmp 147) = e147 at hfr
                    generalize a7.eval (.tmp 148) = e148 at hfr
                    generalize a7.eval (.tmp 149) = e149 at hfr
                    generalize a7.eval (.tmp 150) = e150 at hfr
                    generalize a7.eval (.tmp 151) = e151 at hfr
                    clear hall hm7
                    refine wpList_store_row _ rfl rfl (.tmp 6) (.tmp 152) 30 rfl gx 30 _ [.slice Az _ cz, .int .i64 (SL.1.low : Int), .int .i64 (SL.1.width : Int)] x6 f152 (HHT.out.rx.grown0 hg7) rfl (by simp [Value.oneCell']) (by kernel_rfl) ?_
                    intro w8 hr8 hg8
                    have HG8 := Lib.hid (And.intro hg7 hg8)
                    have H6 := Lib.hid (HHT.out.ref hg7 hzr hzs hr8 hg8)
                    clear hzr hzs hr8 hg8 hg7 x6 f152
                    unfold wpList
                    rw [hfr]
                    clear hfr
                    go_simp
                    have HD6 := Lib.hid ((HDD.out.grown0 HG8.out.1).grown HG8.out.2 (fun e => by cases e; exact HDN.out.1 rfl))
                    have k3 := H6.out.rh.cell HCP.out
                    have k4 := H6.out.rh.frozen p
                    have H9 := Lib.hid (show PS w (w8.setCell ⟨gh, p, none⟩ (.int .i64 ((saw cp bt : Nat) : Int))) g gc gt t1 t2 vb5 ⟨TS.1, X.c, TS.2⟩ gx ga gh (.slice Az _ cz) SL.1 X.c SL.2 by have := H6.out.setH p (saw cp bt); rw [← HNS.out] at this; exact this)
                    have HD9 := Lib.hid (HD6.out.other (i := p) (show gd ≠ gh from HDN.out.2.2.1) (.int .i64 ((saw cp bt : Nat) : Int)))
                    clear k2 hbv
                    have hpi : (p : Int) < 16 := by omega
                    go_wp2_with fail
                    refine (HSW.out _).mono ?_
                    rintro e w9 ⟨rfl, rfl⟩
                    go_wp2
                    go_roundw
                    case rel => exact ⟨j, 2 * p + bt.toNat, SL.1, SL.2, _, by omega, by go_num, by go_num, HN.out, H9.out, HD9.out⟩
                    case measure => simp only [intOf]; omega
              · have q0 : (vv == 0) = false := by simpa using hv0
                have q1 : (vv == 1) = false := by simpa using hv1
                have q2 : (vv == 2) = false := by simpa using hv2
                go_wp2_with (first | (refine wpList_runs rfl (ex_minc 32 rfl rfl) ?_) | (refine wpList_runs rfl (ex_max0 rfl rfl) ?_; rw [hB]))
                refine ⟨?_, ?_⟩
                · repeat apply Exists.intro
                  refine ⟨?_, rfl⟩
                  exact ⟨k + 1, vb, X, xv, by omega, by go_num, H4.out, HNX.out⟩
                · show len - ((k : Int) + 1).toNat < len - (k : Int).toNat
                  omega
            · have hdk : decide ((k : Int) < (len : Int)) = false := by simp; omega
              have hk300 : k ≤ 300 := by omega
              go_wp2
              go_loopw [165] (fun i W => ∃ m : Nat, m ≤ 8 ∧ i = .int .i64 m ∧ PS w W g gc gt t1 t2 vb X gx ga gh xv X.s X.c X.t) (fun i _ => 8 - (intOf i).toNat)
              case atStart => exact ⟨0, Nat.zero_le _, rfl, HH.out⟩
              case round =>
                obtain ⟨m, hm, rfl, hh⟩ := hrel
                have HJ1 := Lib.hid hh
                clear hh HH
                by_cases hm8 : m < 8
                · have hdm : decide ((m : Int) < 8) = true := by simp; omega
                  have HM8 := Lib.hid hm8
                  have HCC := Lib.hid (chV_at X.c m (by rw [HO.out.c8]; exact hm8))
                  have HAC := Lib.hid (numsV_at X.c m (by rw [HO.out.c8]; exact hm8))
                  have HCL := Lib.hid (show X.c.getD m 0 ≤ 2048 by have h := HO.out.c.at_ (show m < X.c.length by rw [HO.out.c8]; exact hm8); obtain ⟨h1, h2⟩ := h; omega)
                  generalize X.c.getD m 0 = cc at *
                  go_wp2
                  refine wp_region_walk3 9 [] dis_nil (by kernel_rfl) (by kernel_rfl) (by kernel_rfl) ?_
                  simp only [List.take_succ_cons, List.take_zero, List.drop_succ_cons, List.drop_zero]
                  refine Walk.val (G := Is (.slice (some ⟨gc, 0, none⟩) 8 8)) (stays_is _ _) rfl rfl (fun a w hm hd => ⟨wanted_plain rfl, st_move rfl (by rw [hm.outer 4 (by kernel_rfl)]; rfl)⟩) ?_
                  refine Walk.val (G := Is (.int .i64 (m : Int))) (stays_is _ _) rfl rfl (fun a w hm hd => ⟨wanted_plain rfl, st_move rfl (by rw [hm.outer 18 (by kernel_rfl)]; rfl)⟩) ?_
                  refine Walk.val (G := Is (.pointer (some ⟨gc, m, none⟩))) (stays_is _ _) rfl rfl (fun a w hm hd => ⟨wanted_plain rfl, st_idxCh rfl (hd.at_ 0 rfl rfl rfl rfl) (hd.at_ 1 rfl rfl rfl rfl) HM8.out⟩) ?_
                  refine Walk.val (G := Is (.agg #[.int .i16 ((cc : Int) - 1024)])) (stays_is _ _) rfl rfl (fun a w hm hd => ⟨wanted_plain rfl, st_loadCh rfl (hd.at_ 2 rfl rfl rfl rfl) (HJ1.out.p.rc.grown0 (GrownX.none2 hm.grow)) HCC.out⟩) ?_
                  refine Walk.call (G := Is (.int .i64 (cc : Int))) (stays_is _ _) rfl 14 rfl (fun a w hm ha hd => ⟨wanted_plain rfl, _, ex_call1 Try.func14 (by kernel_rfl) (by kernel_rfl) rfl, by rw [show a.eval (.tmp 171) = _ from (hd.at_ 3 rfl rfl rfl rfl)]; exact Val.made (of_any cc HCL.out w)⟩) ?_
                  refine Walk.val (G := Is (.int .i64 (m : Int))) (stays_is _ _) rfl rfl (fun a w hm hd => ⟨wanted_plain rfl, st_move rfl (by rw [hm.outer 18 (by kernel_rfl)]; rfl)⟩) ?_
                  refine Walk.val (G := Is (.pointer (some ⟨ga, m, none⟩))) (stays_is _ _) rfl rfl (fun a w hm hd => ⟨wanted_plain rfl, st_idxA8 rfl (by rw [hm.outer 7 (by kernel_rfl)]; rfl) (hd.at_ 5 rfl rfl rfl rfl) HM8.out⟩) ?_
                  refine Walk.val (G := Is (.int .i64 (cc : Int))) (stays_is _ _) rfl rfl (fun a w hm hd => ⟨wanted_plain rfl, st_cell rfl (fun _ => by kernel_rfl) (hd.at_ 6 rfl rfl rfl rfl) ((HJ1.out.ra.grown0 (GrownX.none2 hm.grow)).cell HAC.out)⟩) ?_
                  refine Walk.val (G := Is (.bool false)) (stays_is _ _) rfl rfl (fun a w hm hd => ⟨wanted_plain rfl, st_nei rfl (hd.at_ 4 rfl rfl rfl rfl) (hd.at_ 7 rfl rfl rfl rfl)⟩) ?_
                  intro a9 V9 hm9 hall
                  have f176 : Is (.bool false) (a9.eval (.tmp 176)) V9 := hall 8 _ _ rfl rfl
                  have hfr := hm9.frame
                  simp only [List.take_succ_cons, List.take_zero, List.filterMap_cons, List.filterMap_nil, List.foldl_cons, List.foldl_nil] at hfr
                  have hgV9 := GrownX.none2 hm9.grow
                  have f176 : a9.eval (.tmp 176) = _ := f176
                  rw [f176] at hfr
                  generalize a9.eval (.tmp 168) = e168 at hfr
                  generalize a9.eval (.tmp 169) = e169 at hfr
                  generalize a9.eval (.tmp 170) = e170 at hfr
                  generalize a9.eval (.tmp 171) = e171 at hfr
                  generalize a9.eval (.tmp 172) = e172 at hfr
                  generalize a9.eval (.tmp 173) = e173 at hfr
                  generalize a9.eval (.tmp 174) = e174 at hfr
                  generalize a9.eval (.tmp 175) = e175 at hfr
                  clear hall hm9
                  unfold wpList
                  rw [hfr]
                  clear hfr
                  go_simp
                  go_wp2
                  refine ⟨?_, ?_⟩
                  · repeat apply Exists.intro
                    refine ⟨?_, rfl⟩
                    exact ⟨m + 1, by have := HM8.out; omega, by go_num, HJ1.out.grown0 hgV9⟩
                  · show 8 - ((m : Int) + 1).toNat < 8 - (m : Int).toNat
                    have := HM8.out
                    omega
                · obtain rfl : m = 8 := by omega
                  go_wp2
                  go_loopw [178] (fun i W => ∃ m : Nat, m ≤ 16 ∧ i = .int .i64 m ∧ PS w W g gc gt t1 t2 vb X gx ga gh xv X.s X.c X.t) (fun i _ => 16 - (intOf i).toNat)
                  case atStart => exact ⟨0, Nat.zero_le _, rfl, HJ1.out⟩
                  case round =>
                    obtain ⟨m, hm, rfl, hh⟩ := hrel
                    have HJ2 := Lib.hid hh
                    clear hh HJ1
                    by_cases hm8 : m < 16
                    · have hdm : decide ((m : Int) < 16) = true := by simp; omega
                      have HM8 := Lib.hid hm8
                      have HCC := Lib.hid (chV_at X.t m (by rw [HO.out.t16]; exact hm8))
                      have HAC := Lib.hid (numsV_at X.t m (by rw [HO.out.t16]; exact hm8))
                      have HCL := Lib.hid (show X.t.getD m 0 ≤ 2048 by have h := HO.out.t.at_ (show m < X.t.length by rw [HO.out.t16]; exact hm8); obtain ⟨h1, h2⟩ := h; omega)
                      generalize X.t.getD m 0 = cc at *
                      go_wp2
                      refine wp_region_walk3 9 [] dis_nil (by kernel_rfl) (by kernel_rfl) (by kernel_rfl) ?_
                      simp only [List.take_succ_cons, List.take_zero, List.drop_succ_cons, List.drop_zero]
                      refine Walk.val (G := Is (.slice (some ⟨gt, 0, none⟩) 16 16)) (stays_is _ _) rfl rfl (fun a w hm hd => ⟨wanted_plain rfl, st_move rfl (by rw [hm.outer 5 (by kernel_rfl)]; rfl)⟩) ?_
                      refine Walk.val (G := Is (.int .i64 (m : Int))) (stays_is _ _) rfl rfl (fun a w hm hd => ⟨wanted_plain rfl, st_move rfl (by rw [hm.outer 19 (by kernel_rfl)]; rfl)⟩) ?_
                      refine Walk.val (G := Is (.pointer (some ⟨gt, m, none⟩))) (stays_is _ _) rfl rfl (fun a w hm hd => ⟨wanted_plain rfl, st_idxCh rfl (hd.at_ 0 rfl rfl rfl rfl) (hd.at_ 1 rfl rfl rfl rfl) HM8.out⟩) ?_
                      refine Walk.val (G := Is (.agg #[.int .i16 ((cc : Int) - 1024)])) (stays_is _ _) rfl rfl (fun a w hm hd => ⟨wanted_plain rfl, st_loadCh rfl (hd.at_ 2 rfl rfl rfl rfl) (HJ2.out.p.rt.grown0 (GrownX.none2 hm.grow)) HCC.out⟩) ?_
                      refine Walk.call (G := Is (.int .i64 (cc : Int))) (stays_is _ _) rfl 14 rfl (fun a w hm ha hd => ⟨wanted_plain rfl, _, ex_call1 Try.func14 (by kernel_rfl) (by kernel_rfl) rfl, by rw [show a.eval (.tmp 184) = _ from (hd.at_ 3 rfl rfl rfl rfl)]; exact Val.made (of_any cc HCL.out w)⟩) ?_
                      refine Walk.val (G := Is (.int .i64 (m : Int))) (stays_is _ _) rfl rfl (fun a w hm hd => ⟨wanted_plain rfl, st_move rfl (by rw [hm.outer 19 (by kernel_rfl)]; rfl)⟩) ?_
                      refine Walk.val (G := Is (.pointer (some ⟨gh, m, none⟩))) (stays_is _ _) rfl rfl (fun a w hm hd => ⟨wanted_plain rfl, st_idxA16 rfl (by rw [hm.outer 8 (by kernel_rfl)]; rfl) (hd.at_ 5 rfl rfl rfl rfl) HM8.out⟩) ?_
                      refine Walk.val (G := Is (.int .i64 (cc : Int))) (stays_is _ _) rfl rfl (fun a w hm hd => ⟨wanted_plain rfl, st_cell rfl (fun _ => by kernel_rfl) (hd.at_ 6 rfl rfl rfl rfl) ((HJ2.out.rh.grown0 (GrownX.none2 hm.grow)).cell HAC.out)⟩) ?_
                      refine Walk.val (G := Is (.bool false)) (stays_is _ _) rfl rfl (fun a w hm hd => ⟨wanted_plain rfl, st_nei rfl (hd.at_ 4 rfl rfl rfl rfl) (hd.at_ 7 rfl rfl rfl rfl)⟩) ?_
                      intro a9 V9 hm9 hall
                      have f189 : Is (.bool false) (a9.eval (.tmp 189)) V9 := hall 8 _ _ rfl rfl
                      have hfr := hm9.frame
                      simp only [List.take_succ_cons, List.take_zero, List.filterMap_cons, List.filterMap_nil, List.foldl_cons, List.foldl_nil] at hfr
                      have hgV9 := GrownX.none2 hm9.grow
                      have f189 : a9.eval (.tmp 189) = _ := f189
                      rw [f189] at hfr
                      generalize a9.eval (.tmp 181) = e181 at hfr
                      generalize a9.eval (.tmp 182) = e182 at hfr
                      generalize a9.eval (.tmp 183) = e183 at hfr
                      generalize a9.eval (.tmp 184) = e184 at hfr
                      generalize a9.eval (.tmp 185) = e185 at hfr
                      generalize a9.eval (.tmp 186) = e186 at hfr
                      generalize a9.eval (.tmp 187) = e187 at hfr
                      generalize a9.eval (.tmp 188) = e188 at hfr
                      clear hall hm9
                      unfold wpList
                      rw [hfr]
                      clear hfr
                      go_simp
                      go_wp2
                      refine ⟨?_, ?_⟩
                      · repeat apply Exists.intro
                        refine ⟨?_, rfl⟩
                        exact ⟨m + 1, by have := HM8.out; omega, by go_num, HJ2.out.grown0 hgV9⟩
                      · show 16 - ((m : Int) + 1).toNat < 16 - (m : Int).toNat
                        have := HM8.out
                        omega
                    · obtain rfl : m = 16 := by omega
                      have HEN := Lib.hid (show ∀ W, Wt W g vb X.s → Calls Try.prog 15 #[.pointer (some ⟨g, 0, none⟩)] W (EOut g vb (endS X.s) W) from fun W hW => end_at g vb X.s W hW HO.out.s (by have := HO.out.len; omega))
                      obtain ⟨T, hT⟩ : ∃ T, T = g :: vb.toList := ⟨_, rfl⟩
                      have HTM := Lib.hid (show ∀ b, b ∈ T ↔ b = g ∨ vb = some b from fun b => by rw [hT]; simp)
                      have HSUB := Lib.hid (show allOf (fun i => if i = 1 then T else []) T from fun i g hg => by
                        have hg' : g ∈ (if i = 1 then T else []) := hg
                        by_cases h : i = 1
                        · rw [if_pos h] at hg'; exact hg'
                        · rw [if_neg h] at hg'; cases hg')
                      have HDIS := Lib.hid (show ∀ i j g, g ∈ (fun i => if i = 1 then T else []) i → g ∈ (fun i => if i = 1 then T else []) j → i = j from fun i j g hi hj => by
                        by_cases h : i = 1
                        · by_cases h' : j = 1
                          · omega
                          · simp [h'] at hj
                        · simp [h] at hi)
                      have HK := Lib.hid (show (fun i => if i = 1 then T else []) 1 = T from rfl)
                      have HKO := Lib.hid (show ∀ i, i ≠ 1 → (fun i => if i = 1 then T else []) i = [] from fun i h => if_neg h)
                      obtain ⟨eff, heff⟩ : ∃ eff : Nat → List Nat, eff = fun i => if i = 1 then T else [] := ⟨_, rfl⟩
                      rw [← heff] at HSUB HDIS HK HKO
                      have HNT := Lib.hid HJ2.out.notT
                      have HX2 := Lib.hid (show ∀ W, GrownX T wr.drew W → Row W gx 30 [xv, .int .i64 (X.s.low : Int), .int .i64 (X.s.width : Int)] ∧ Rd W xv (bytesV X.s.out) from fun W h => ⟨(h.block gx HJ2.out.rx.lt (fun hm => by
                        rcases (HTM.out gx).1 hm with e | e
                        · exact HJ2.out.nx.1 e
                        · exact HJ2.out.nx.2.2.2.1 e)).trans HJ2.out.rx, HJ2.out.rd.keepE (fun he b hb hlt => h.block b hlt (fun hm => by
                        rcases (HTM.out b).1 hm with e | e
                        · exact (HNT.out he b hb).1 e
                        · exact (HNT.out he b hb).2 e))⟩)
                      have HTL := Lib.hid (show ∀ b ∈ T, b < wr.heap.size from fun b hb => by
                        rcases (HTM.out b).1 hb with e | e
                        · rw [e]; exact HJ2.out.p.wt.lt
                        · exact HJ2.out.p.wt.row_lt b e)
                      have HGW := Lib.hid HJ2.out.p.grow
                      have HNW := Lib.hid HJ2.out.p.new
                      have HLW := Lib.hid (And.intro HO.out.s.low (show X.s.out.length ≤ 100000 by have := HO.out.len; omega))
                      have HWT := Lib.hid HJ2.out.p.wt
                      obtain ⟨E, hE⟩ : ∃ E, E = endS X.s := ⟨_, rfl⟩
                      have HREN := Lib.hid (show ∀ W, Rd W xv (bytesV X.s.out) → Calls Try.prog 16 #[cV xv X.s] W (fun e w' => ∃ u, e = .returned u ∧ Rd w' u (bytesV (endS X.s)) ∧ W.grownBy w' none ∧ ∀ b, u.ownBlock = some b → W.heap.size ≤ b) from fun W h => rend_new xv X.s W h HLW.out.1 HLW.out.2)
                      rw [← hE] at HEN HREN
                      clear hT heff hE HJ2
                      go_wp2
                      refine wp_region_walkX 11 eff T HSUB.out HDIS.out (by kernel_rfl) (by kernel_rfl) (by kernel_rfl) ?_
                      simp only [List.take_succ_cons, List.take_zero, List.drop_succ_cons, List.drop_zero]
                      refine Walk3.val (G := Is (.pointer (some ⟨g, 0, none⟩))) (stays3_is _ _) rfl rfl (fun a w hm hd => ⟨wanted_plain rfl, st_move rfl (by rw [hm.outer 3 (by kernel_rfl)]; rfl)⟩) ?_
                      refine Walk3.call (G := IsB E) (fun i hi v w w' h hg => Rd.grown0 h (by rw [HKO.out i hi] at hg; exact hg.to0)) rfl 15 rfl (fun a w hm ha hd => ⟨wanted_plain rfl, _, ex_call1 Try.func15 (by kernel_rfl) (by kernel_rfl) rfl, by
                        rw [show a.eval (.tmp 191) = _ from (hd.at_ 0 rfl rfl rfl rfl)]
                        have hkeep : Wt w g vb X.s := HWT.out.keep (ha g (by rw [HK.out]; exact (HTM.out g).2 (.inl rfl)) HWT.out.lt) (fun b hb => ha b (by rw [HK.out]; exact (HTM.out b).2 (.inr hb)) (HWT.out.row_lt b hb))
                        refine (HEN.out w hkeep).mono ?_
                        rintro e w' ⟨u', rfl, ho', v2', _, hn'⟩
                        exact ⟨u', rfl, ⟨hn'.os, hn'.tape, hn'.output, hn'.size, fun b hb hne => hn'.block b hb (fun e => hne (by rw [HK.out]; exact (HTM.out b).2 (.inl (List.mem_singleton.1 e)))) (fun e => hne (by rw [HK.out]; exact (HTM.out b).2 (.inr e.symm)))⟩, Rd.of_own ho'⟩
                        ⟩) ?_
                      refine Walk3.val (G := Is (.string ⟨E.toArray⟩)) (stays3_is _ _) rfl rfl (fun a w hm hd => ⟨wanted_plain rfl, st_str rfl (hd.at_ 1 rfl rfl rfl rfl)⟩) ?_
                      refine Walk3.val (G := Is (cV xv X.s)) (stays3_is _ _) rfl rfl (fun a w hm hd => ⟨wanted_plain rfl, st_loadW rfl (by rw [hm.outer 6 (by kernel_rfl)]; rfl) (HX2.out w hm.grow).1⟩) ?_
                      refine Walk3.call (G := (fun v W => Rd W v (bytesV E) ∧ ∀ b, v.ownBlock = some b → b ∉ T)) (fun i hi v w w' h hg => ⟨h.1.keep (fun b hb hlt => hg.block b hlt (fun hm => h.2 b hb (HSUB.out i b hm))), h.2⟩) rfl 16 rfl (fun a w hm ha hd => ⟨wanted_plain rfl, _, ex_call1 Try.func16 (by kernel_rfl) (by kernel_rfl) rfl, by
                        rw [show a.eval (.tmp 194) = _ from (hd.at_ 3 rfl rfl rfl rfl)]
                        refine (HREN.out w (HX2.out w hm.grow).2).mono ?_
                        rintro e w' ⟨u', rfl, hr', hg', hf'⟩
                        exact ⟨u', rfl, GrownX.of0 hg', hr', fun b hb hm2 => by have h1 := hf' b hb; have h2 := HTL.out b hm2; have h3 : wr.heap.size ≤ w.heap.size := hm.grow.size; omega⟩
                        ⟩) ?_
                      refine Walk3.val (G := Is (.string ⟨E.toArray⟩)) (stays3_is _ _) rfl rfl (fun a w hm hd => ⟨wanted_plain rfl, st_str rfl ((hd.at_ 4 rfl rfl rfl rfl)).1⟩) ?_
                      refine Walk3.val (G := Is (.bool true)) (stays3_is _ _) rfl rfl (fun a w hm hd => ⟨wanted_plain rfl, st_eqs rfl (hd.at_ 2 rfl rfl rfl rfl) (hd.at_ 5 rfl rfl rfl rfl) rfl⟩) ?_
                      refine Walk3.val (G := Is (.bool true)) (stays3_is _ _) rfl rfl (fun a w hm hd => ⟨wanted_plain rfl, st_move rfl (hd.at_ 6 rfl rfl rfl rfl)⟩) ?_
                      refine Walk3.call (G := Is (.bool true)) (stays3_is _ _) rfl 4 rfl (fun a w hm ha hd => ⟨wanted_at rfl rfl (hd.at_ 7 rfl rfl rfl rfl), _, ex_call0 Try.func4 (by kernel_rfl) (by kernel_rfl) rfl, by
                        refine (awake_any w).mono ?_
                        rintro e w' ⟨rfl, hg⟩
                        exact ⟨_, rfl, GrownX.of0 hg, rfl⟩
                        ⟩) ?_
                      refine Walk3.val (G := Is (.bool true)) (stays3_is _ _) rfl rfl (fun a w hm hd => ⟨wanted_plain rfl, st_pick rfl (hd.at_ 7 rfl rfl rfl rfl) (hd.at_ 8 rfl rfl rfl rfl)⟩) ?_
                      refine Walk3.val (G := Is (.bool true)) (stays3_is _ _) rfl rfl (fun a w hm hd => ⟨wanted_plain rfl, st_assign rfl (hd.at_ 9 rfl rfl rfl rfl)⟩) ?_
                      intro a9 V9 hm9 hall
                      have f2 : a9.eval (.tmp 2) = .bool true := hall 10 _ _ rfl rfl
                      have hgr : w.grownBy V9 none := ⟨hm9.grow.os.trans HGW.out.os, hm9.grow.tape.trans HGW.out.tape, hm9.grow.output.trans HGW.out.output, Nat.le_trans HGW.out.size hm9.grow.size, fun b hb _ => (hm9.grow.block b (Nat.lt_of_lt_of_le hb HGW.out.size) (fun e => by
                        rcases (HTM.out b).1 e with e | e
                        · have := HNW.out.1; omega
                        · have := HNW.out.2.2.2 b e; omega)).trans (HGW.out.block b hb (by simp))⟩
                      have hdf : a9.defers = [] := hm9.defers
                      clear hall hm9
                      obtain ⟨tm, df⟩ := a9
                      simp only at hdf
                      subst hdf
                      have HG9 := Lib.hid hgr
                      clear hgr
                      unfold wpList
                      go_wp2
                      go_ret
                      exact ⟨congrArg Ending.returned f2, HG9.out⟩
end Go.Proofs.Ytohndlfekecfoaa
