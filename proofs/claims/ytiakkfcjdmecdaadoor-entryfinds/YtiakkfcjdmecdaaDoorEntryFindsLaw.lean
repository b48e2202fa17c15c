/-
  EntryFinds' walk (P13.1): what Find answers of each path.
-/
import Derived.Test.YtiakkfcjdmecdaaDoorEnSlice
import Derived.Test.YtiakkfcjdmecdaaDoorEnFind
import Derived.Test.YtiakkfcjdmecdaaDoorEnTotalP
import Derived.Test.YtiakkfcjdmecdaaDoorEnWin
import Derived.Test.YtiakkfcjdmecdaaDoorEnAwake
import Derived.Test.YtiakkfcjdmecdaaDoorHeldOps
namespace Go.Proofs.YtiakkfcjdmecdaaDoor
set_option maxRecDepth 1000000
open Go.RowKit

theorem find_own {l : List En} (h : fineE l = true) {k : Nat} (hk : k < l.length) : findE l (l.getD k default).path = some (l.getD k default) ∧ findE (l.take k) (l.getD k default).path = none := by
  constructor
  · exact find_some hk (by simp) fun j hj => decide_eq_false fun e => fine_paths h hj hk e
  · refine find_none fun j hj => decide_eq_false fun e => ?_
    rw [List.length_take] at hj
    rw [getD_take _ (by omega)] at e
    exact fine_paths h (by omega) hk e
section
variable {o : Oper} {a : Act} {w : World}
theorem ex_takeP {x y : Operand} {ad : Addr} {n c k : Nat} (h : o.op = .slice 25 x none (some y) none) (hx : a.eval x = .slice (some ad) n c) (hy : a.eval y = .int .i64 (k : Int)) (hk : k ≤ n) (hn : n ≤ c) : (execOp a.eval o).run Tryd.prog w = .ok (.value (.slice (some ad) k c)) w := by
  have h1 : (k : Int) ≤ (c : Int) := by omega
  simp only [execOp, h, hx, hy, Option.map_some, Option.map_none]
  simp [go_sem, h1]
theorem ex_field0 {x : Operand} {g : Nat} (h : o.op = .fieldAddr 38 x 0) (hx : a.eval x = .pointer (some ⟨g, 0, none⟩)) : (execOp a.eval o).run Tryd.prog w = .ok (.value (.pointer (some ⟨g, 0, none⟩))) w := by
  simp only [execOp, h, hx]
  simp [go_sem]
theorem ex_cell9 {x : Operand} {p : Addr} {v : Value} (h : o.op = .load 9 x) (hx : a.eval x = .pointer (some p)) (hc : w.cell? p = some v) : (execOp a.eval o).run Tryd.prog w = .ok (.value v) w := by
  obtain ⟨u, hr, hu⟩ := st_cell (o := o) (a := a) (w := w) h (fun _ => by kernel_rfl) hx hc
  obtain rfl : u = v := hu
  exact hr
theorem ex_ext {x : Operand} {vs : Array Value} {v : Value} {k : Nat} (h : o.op = .extract x k) (hx : a.eval x = .tuple vs) (hv : vs[k]? = some v) : (execOp a.eval o).run Tryd.prog w = .ok (.value v) w := by
  obtain ⟨u, hr, hu⟩ := st_extract (o := o) (a := a) (w := w) k h hx hv
  obtain rfl : u = v := hu
  exact hr
theorem ex_allocE (h : o.op = .alloc 38) : (execOp a.eval o).run Tryd.prog w = .ok (.value (.pointer (some ⟨w.heap.size, 0, none⟩))) (w.alloc (.cells (enC default).toArray 38)) := by
  simp only [execOp, h]
  kernel_rfl
end
set_option maxRecDepth 100000 in
set_option maxHeartbeats 8000000 in
theorem entryFinds_walk (A : Option Addr) (n c : Nat) (l : List En) (w : World) (hv : RdE w (.slice A n c) l) :
    Calls Tryd.prog 10 #[.slice A n c] w (Val (.bool true) w) := by
  have HSH := Lib.hid (short_any A n c l w hv)
  have hln := hv.len.1
  have HN := Lib.hid hln
  have HV := Lib.hid hv
  have HAW := Lib.hid has_awake
  clear hv hln
  cases hs : shortB l
  · rw [hs] at HSH
    go_enter Tryd.func10, Tryd.ntmps10
    go_wp2_with fail
    refine HSH.out.mono ?_
    rintro e0 w0 ⟨rfl, hg0⟩
    go_wp2_with fail
    refine (HAW.out _).mono ?_
    rintro e1 w1 ⟨rfl, hg1⟩
    go_wp2
    go_ret
    exact ⟨rfl, hg0.trans hg1⟩
  · rw [hs] at HSH
    obtain ⟨h20, hm, hsz⟩ := short_is hs
    have HFI := Lib.hid (fun w' (h : RdE w' (.slice A n c) l) => has_fine _ l w' h hm hsz h20)
    have HL := Lib.hid (show n ≤ 20 by have := HN.out; omega)
    clear hm hsz hs h20
    cases hf : fineE l
    · rw [hf] at HFI
      go_enter Tryd.func10, Tryd.ntmps10
      go_wp2_with fail
      refine HSH.out.mono ?_
      rintro e0 w0 ⟨rfl, hg0⟩
      have G0 := Lib.hid hg0
      have HV0 := Lib.hid (HV.out.grown0 hg0)
      clear hg0
      go_wp2_with fail
      refine (HFI.out _ HV0.out).mono ?_
      rintro e1 w1 ⟨rfl, hg1⟩
      have G1 := Lib.hid (G0.out.trans hg1)
      clear hg1
      go_wp2_with fail
      refine (HAW.out _).mono ?_
      rintro e2 w2 ⟨rfl, hg2⟩
      go_wp2
      go_ret
      exact ⟨rfl, G1.out.trans hg2⟩
    · rw [hf] at HFI
      have HOWN := Lib.hid (fun k (hk : k < l.length) => find_own hf hk)
      go_enter Tryd.func10, Tryd.ntmps10
      go_wp2_with fail
      refine HSH.out.mono ?_
      rintro e0 w0 ⟨rfl, hg0⟩
      have G0 := Lib.hid hg0
      have HV0 := Lib.hid (HV.out.grown0 hg0)
      clear hg0
      go_wp2_with fail
      refine (HFI.out _ HV0.out).mono ?_
      rintro e1 w1 ⟨rfl, hg1⟩
      have G1 := Lib.hid (G0.out.trans hg1)
      clear hg1
      go_wp2
      go_loopw [20] (fun i W => ∃ k : Nat, i = .int .i64 k ∧ k ≤ n ∧ w.grownBy W none) (fun i _ => n - (intOf i).toNat)
      case atStart => exact ⟨0, rfl, Nat.zero_le _, G1.out⟩
      case round =>
        obtain ⟨k, rfl, hk, hg⟩ := hrel
        have HG := Lib.hid hg
        clear hg
        have hnb := HL.out
        by_cases hlt : k < n
        · have d0 : decide ((k : Int) < (n : Int)) = true := by simp; omega
          have hkl : k < l.length := by rw [HN.out]; exact hlt
          have HVr := Lib.hid (HV.out.grown0 HG.out)
          obtain ⟨ad, rfl, c0, c1, c2, c3, c4, c5, c6⟩ := HVr.out.step hkl
          have HO := Lib.hid (HOWN.out k hkl)
          have HF1 : Hid (∀ W, RdE W (.slice (some ad) n c) l → Calls Tryd.prog 22 #[.slice (some ad) n c, .string (bts (l.getD k default).path)] W (fun e w' => e = .returned (.tuple #[enV (l.getD k default), .bool true]) ∧ W.grownBy w' none)) :=
            Lib.hid (fun W h => (find_any _ (l.getD k default).path l W h (by rw [HN.out]; omega)).mono fun e w' ⟨h1, h2⟩ => ⟨by rw [h1, HO.out.1]; rfl, h2⟩)
          have HF2 : Hid (∀ u W, RdE W u (l.take k) → Calls Tryd.prog 22 #[u, .string (bts (l.getD k default).path)] W (fun e w' => ∃ u, e = .returned u ∧ W.grownBy w' none ∧ Is (.tuple #[enV default, .bool false]) u w')) :=
            Lib.hid (fun u W h => (find_any u (l.getD k default).path (l.take k) W h (by rw [List.length_take]; omega)).mono fun e w' ⟨h1, h2⟩ => ⟨_, by rw [h1, HO.out.2]; rfl, h2, rfl⟩)
          generalize l.getD k default = t at *
          clear hnb
          go_wp2_with fail
          have hE : Row (wr.alloc (.cells (enC t).toArray 38)) wr.heap.size 38 (enC t) := Row.new _ _ _
          have hG6 : wr.grownBy (wr.alloc (.cells (enC t).toArray 38)) none := grown_alloc (grown_refl _ _) _
          refine (HF1.out _ (HVr.out.grown0 hG6)).mono ?_
          rintro e2 w2 ⟨rfl, hg2⟩
          have HE2 := Lib.hid (hE.grown0 hg2)
          have HG2 := Lib.hid (HG.out.trans (hG6.trans hg2))
          clear hE hG6 hg2 HVr HG
          simp only [enV, enC]
          go_wp2
          have hX : Row (w2.alloc (.cells (enC t).toArray 38)) w2.heap.size 38 (enC t) := Row.new _ _ _
          have hG7 : w2.grownBy (w2.alloc (.cells (enC t).toArray 38)) none := grown_alloc (grown_refl _ _) _
          have hE7 := HE2.out.grown0 hG7
          show Code.wp _ _ _ _ (w2.alloc (.cells (enC t).toArray 38))
          generalize (w2.alloc (.cells (enC t).toArray 38)) = W7 at *
          have HX7 := Lib.hid hX
          have HE7 := Lib.hid hE7
          have HG7 := Lib.hid (HG2.out.trans hG7)
          have HV7 := Lib.hid (HV.out.grown0 HG7.out)
          have HKN := Lib.hid (show k ≤ n from hk)
          have HVK : Hid (RdE W7 (.slice (some ad) k c) (l.take k)) := Lib.hid (HV7.out.take (by rw [HN.out]; exact hk))
          have HNC := Lib.hid HV.out.len.2.1
          clear hX hG7 hE7 HE2 HG2 c0 c1 c2 c3 c4 c5 c6
-- REGION
          have hS0 := grown_drew (grown_refl W7 none)
          obtain ⟨ED, hED⟩ : ∃ v, v = enV default := ⟨_, rfl⟩
          refine wp_region_held (S := fun W => W7.grownBy W none) (by kernel_rfl) ?_
          generalize hA : Act.mk _ _ = F0
          have s0 : F0.eval (.tmp 0) = .slice (some ad) n c := by rw [← hA]; rfl
          have s3 : F0.eval (.tmp 3) = .int .i64 (k : Int) := by rw [← hA]; rfl
          have s4 : F0.eval (.tmp 4) = .pointer (some ⟨wr.heap.size, 0, none⟩) := by rw [← hA]; rfl
          have hsz : F0.tmps.size = 53 := by rw [← hA]; rfl
          change wpAnyH _ _ _ _ _ _ _ _ W7.drew
          refine held_take 0 (.slice (some ad) n c) rfl rfl (by kernel_rfl) (by kernel_rfl) (by kernel_rfl) (fun _ _ _ h => h) (fun w hS => (ex_move rfl).trans (by rw [s0])) hS0 ?_
          obtain ⟨F1, hF1⟩ : ∃ A, F0.put (some 33) (.slice (some ad) n c) = A := ⟨_, rfl⟩
          change wpAnyH _ _ _ _ _ _ _ (F0.put (some 33) (.slice (some ad) n c)) _
          rw [hF1]
          replace s0 : F1.eval (.tmp 0) = .slice (some ad) n c := by rw [← hF1, eval_put_ne' (by decide)]; exact s0
          replace s3 : F1.eval (.tmp 3) = .int .i64 (k : Int) := by rw [← hF1, eval_put_ne' (by decide)]; exact s3
          replace s4 : F1.eval (.tmp 4) = .pointer (some ⟨wr.heap.size, 0, none⟩) := by rw [← hF1, eval_put_ne' (by decide)]; exact s4
          have s33 : F1.eval (.tmp 33) = .slice (some ad) n c := by rw [← hF1]; exact eval_put_eq' (by rw [hsz]; decide)
          replace hsz : F1.tmps.size = 53 := by rw [← hF1, size_put]; exact hsz
          clear s0
          refine held_take 1 (.int .i64 (k : Int)) rfl rfl (by kernel_rfl) (by kernel_rfl) (by kernel_rfl) (fun _ _ _ h => h) (fun w hS => (ex_move rfl).trans (by rw [s3])) hS0 ?_
          obtain ⟨F2, hF2⟩ : ∃ A, F1.put (some 34) (.int .i64 (k : Int)) = A := ⟨_, rfl⟩
          change wpAnyH _ _ _ _ _ _ _ (F1.put (some 34) (.int .i64 (k : Int))) _
          rw [hF2]
          replace s3 : F2.eval (.tmp 3) = .int .i64 (k : Int) := by rw [← hF2, eval_put_ne' (by decide)]; exact s3
          replace s4 : F2.eval (.tmp 4) = .pointer (some ⟨wr.heap.size, 0, none⟩) := by rw [← hF2, eval_put_ne' (by decide)]; exact s4
          replace s33 : F2.eval (.tmp 33) = .slice (some ad) n c := by rw [← hF2, eval_put_ne' (by decide)]; exact s33
          have s34 : F2.eval (.tmp 34) = .int .i64 (k : Int) := by rw [← hF2]; exact eval_put_eq' (by rw [hsz]; decide)
          replace hsz : F2.tmps.size = 53 := by rw [← hF2, size_put]; exact hsz
          clear s3
          refine held_take 2 (.slice (some ad) k c) rfl rfl (by kernel_rfl) (by kernel_rfl) (by kernel_rfl) (fun _ _ _ h => h) (fun w hS => ex_takeP rfl s33 s34 HKN.out HNC.out) hS0 ?_
          obtain ⟨F3, hF3⟩ : ∃ A, F2.put (some 35) (.slice (some ad) k c) = A := ⟨_, rfl⟩
          change wpAnyH _ _ _ _ _ _ _ (F2.put (some 35) (.slice (some ad) k c)) _
          rw [hF3]
          replace s4 : F3.eval (.tmp 4) = .pointer (some ⟨wr.heap.size, 0, none⟩) := by rw [← hF3, eval_put_ne' (by decide)]; exact s4
          replace s33 : F3.eval (.tmp 33) = .slice (some ad) n c := by rw [← hF3, eval_put_ne' (by decide)]; exact s33
          replace s34 : F3.eval (.tmp 34) = .int .i64 (k : Int) := by rw [← hF3, eval_put_ne' (by decide)]; exact s34
          have s35 : F3.eval (.tmp 35) = .slice (some ad) k c := by rw [← hF3]; exact eval_put_eq' (by rw [hsz]; decide)
          replace hsz : F3.tmps.size = 53 := by rw [← hF3, size_put]; exact hsz
          clear s33 s34
          refine held_take 3 (.pointer (some ⟨wr.heap.size, 0, none⟩)) rfl rfl (by kernel_rfl) (by kernel_rfl) (by kernel_rfl) (fun _ _ _ h => h) (fun w hS => ex_field0 rfl s4) hS0 ?_
          obtain ⟨F4, hF4⟩ : ∃ A, F3.put (some 36) (.pointer (some ⟨wr.heap.size, 0, none⟩)) = A := ⟨_, rfl⟩
          change wpAnyH _ _ _ _ _ _ _ (F3.put (some 36) (.pointer (some ⟨wr.heap.size, 0, none⟩))) _
          rw [hF4]
          replace s4 : F4.eval (.tmp 4) = .pointer (some ⟨wr.heap.size, 0, none⟩) := by rw [← hF4, eval_put_ne' (by decide)]; exact s4
          replace s35 : F4.eval (.tmp 35) = .slice (some ad) k c := by rw [← hF4, eval_put_ne' (by decide)]; exact s35
          have s36 : F4.eval (.tmp 36) = .pointer (some ⟨wr.heap.size, 0, none⟩) := by rw [← hF4]; exact eval_put_eq' (by rw [hsz]; decide)
          replace hsz : F4.tmps.size = 53 := by rw [← hF4, size_put]; exact hsz
          clear s4
          refine held_take 4 (.string (bts t.path)) rfl rfl (by kernel_rfl) (by kernel_rfl) (by kernel_rfl) (fun _ _ _ h => h) (fun w hS => ex_cell9 rfl s36 ((HE7.out.grown0 hS).cell (j := 0) rfl)) hS0 ?_
          obtain ⟨F5, hF5⟩ : ∃ A, F4.put (some 37) (.string (bts t.path)) = A := ⟨_, rfl⟩
          change wpAnyH _ _ _ _ _ _ _ (F4.put (some 37) (.string (bts t.path))) _
          rw [hF5]
          replace s35 : F5.eval (.tmp 35) = .slice (some ad) k c := by rw [← hF5, eval_put_ne' (by decide)]; exact s35
          replace s36 : F5.eval (.tmp 36) = .pointer (some ⟨wr.heap.size, 0, none⟩) := by rw [← hF5, eval_put_ne' (by decide)]; exact s36
          have s37 : F5.eval (.tmp 37) = .string (bts t.path) := by rw [← hF5]; exact eval_put_eq' (by rw [hsz]; decide)
          replace hsz : F5.tmps.size = 53 := by rw [← hF5, size_put]; exact hsz
          clear s36
          refine wpAnyH_all (rs := [5, 9]) (by kernel_rfl) (by simp) ?_
          intro j hj
          rcases (by simpa using hj : j = 5 ∨ j = 9) with rfl | rfl
          · refine op_call 5 rfl rfl (ex_call2 Tryd.func22 (by kernel_rfl) (by kernel_rfl) rfl) ?_
            rw [s35, s37]
            refine (HF2.out _ _ (HVK.out.grown0 hS0)).mono ?_
            rintro e3 w3 ⟨u3, rfl, hg3, hu3⟩
            replace hu3 : u3 = .tuple #[ED, .bool false] := by rw [hED]; exact hu3
            have hS3 := World.grownBy.trans hS0 hg3
            refine ⟨u3, rfl, hS3, ?_⟩
            obtain ⟨F6, hF6⟩ : ∃ A, F5.put (some 38) (u3) = A := ⟨_, rfl⟩
            change wpAnyH _ _ _ _ _ _ _ (F5.put (some 38) (u3)) _
            rw [hF6]
            replace s35 : F6.eval (.tmp 35) = .slice (some ad) k c := by rw [← hF6, eval_put_ne' (by decide)]; exact s35
            replace s37 : F6.eval (.tmp 37) = .string (bts t.path) := by rw [← hF6, eval_put_ne' (by decide)]; exact s37
            have s38 : F6.eval (.tmp 38) = u3 := by rw [← hF6]; exact eval_put_eq' (by rw [hsz]; decide)
            replace hsz : F6.tmps.size = 53 := by rw [← hF6, size_put]; exact hsz
            refine held_take 6 (u3) rfl rfl (by kernel_rfl) (by kernel_rfl) (by kernel_rfl) (fun _ _ _ h => h) (fun w hS => (ex_move rfl).trans (by rw [s38])) hS3 ?_
            obtain ⟨F7, hF7⟩ : ∃ A, F6.put (some 32) (u3) = A := ⟨_, rfl⟩
            change wpAnyH _ _ _ _ _ _ _ (F6.put (some 32) (u3)) _
            rw [hF7]
            replace s35 : F7.eval (.tmp 35) = .slice (some ad) k c := by rw [← hF7, eval_put_ne' (by decide)]; exact s35
            replace s37 : F7.eval (.tmp 37) = .string (bts t.path) := by rw [← hF7, eval_put_ne' (by decide)]; exact s37
            replace s38 : F7.eval (.tmp 38) = u3 := by rw [← hF7, eval_put_ne' (by decide)]; exact s38
            have s32 : F7.eval (.tmp 32) = u3 := by rw [← hF7]; exact eval_put_eq' (by rw [hsz]; decide)
            replace hsz : F7.tmps.size = 53 := by rw [← hF7, size_put]; exact hsz
            refine held_take 7 (ED) rfl rfl (by kernel_rfl) (by kernel_rfl) (by kernel_rfl) (fun _ _ _ h => h) (fun w hS => ex_ext rfl (s32.trans hu3) rfl) hS3 ?_
            obtain ⟨F8, hF8⟩ : ∃ A, F7.put (some 39) (ED) = A := ⟨_, rfl⟩
            change wpAnyH _ _ _ _ _ _ _ (F7.put (some 39) (ED)) _
            rw [hF8]
            replace s35 : F8.eval (.tmp 35) = .slice (some ad) k c := by rw [← hF8, eval_put_ne' (by decide)]; exact s35
            replace s37 : F8.eval (.tmp 37) = .string (bts t.path) := by rw [← hF8, eval_put_ne' (by decide)]; exact s37
            replace s38 : F8.eval (.tmp 38) = u3 := by rw [← hF8, eval_put_ne' (by decide)]; exact s38
            replace s32 : F8.eval (.tmp 32) = u3 := by rw [← hF8, eval_put_ne' (by decide)]; exact s32
            have s39 : F8.eval (.tmp 39) = ED := by rw [← hF8]; exact eval_put_eq' (by rw [hsz]; decide)
            replace hsz : F8.tmps.size = 53 := by rw [← hF8, size_put]; exact hsz
            refine held_take 8 (.bool false) rfl rfl (by kernel_rfl) (by kernel_rfl) (by kernel_rfl) (fun _ _ _ h => h) (fun w hS => ex_ext rfl (s32.trans hu3) rfl) hS3 ?_
            obtain ⟨F9, hF9⟩ : ∃ A, F8.put (some 40) (.bool false) = A := ⟨_, rfl⟩
            change wpAnyH _ _ _ _ _ _ _ (F8.put (some 40) (.bool false)) _
            rw [hF9]
            replace s35 : F9.eval (.tmp 35) = .slice (some ad) k c := by rw [← hF9, eval_put_ne' (by decide)]; exact s35
            replace s37 : F9.eval (.tmp 37) = .string (bts t.path) := by rw [← hF9, eval_put_ne' (by decide)]; exact s37
            replace s38 : F9.eval (.tmp 38) = u3 := by rw [← hF9, eval_put_ne' (by decide)]; exact s38
            replace s32 : F9.eval (.tmp 32) = u3 := by rw [← hF9, eval_put_ne' (by decide)]; exact s32
            replace s39 : F9.eval (.tmp 39) = ED := by rw [← hF9, eval_put_ne' (by decide)]; exact s39
            have s40 : F9.eval (.tmp 40) = .bool false := by rw [← hF9]; exact eval_put_eq' (by rw [hsz]; decide)
            replace hsz : F9.tmps.size = 53 := by rw [← hF9, size_put]; exact hsz
            refine wpAnyH_all (rs := [9]) (by kernel_rfl) (by simp) ?_
            intro j hj
            obtain rfl : j = 9 := by simpa using hj
            refine op_val 9 rfl rfl (ex_allocE rfl) ?_
            have hS5 := grown_alloc hS3 (.cells (enC default).toArray 38)
            have hR5 := Row.new w3 38 (enC default)
            have hsg := hS3.size
            refine ⟨hS5, ?_⟩
            obtain ⟨W5, hW5⟩ : ∃ W5, w3.alloc (.cells (enC default).toArray 38) = W5 := ⟨_, rfl⟩
            change wpAnyH _ _ _ _ _ _ _ _ (w3.alloc (.cells (enC default).toArray 38))
            rw [hW5] at hS5 hR5 ⊢
            clear hW5
            generalize hgg : w3.heap.size = g5 at *
            obtain ⟨F10, hF10⟩ : ∃ A, F9.put (some 7) (.pointer (some ⟨g5, 0, none⟩)) = A := ⟨_, rfl⟩
            change wpAnyH _ _ _ _ _ _ _ (F9.put (some 7) (.pointer (some ⟨g5, 0, none⟩))) _
            rw [hF10]
            replace s35 : F10.eval (.tmp 35) = .slice (some ad) k c := by rw [← hF10, eval_put_ne' (by decide)]; exact s35
            replace s37 : F10.eval (.tmp 37) = .string (bts t.path) := by rw [← hF10, eval_put_ne' (by decide)]; exact s37
            replace s38 : F10.eval (.tmp 38) = u3 := by rw [← hF10, eval_put_ne' (by decide)]; exact s38
            replace s32 : F10.eval (.tmp 32) = u3 := by rw [← hF10, eval_put_ne' (by decide)]; exact s32
            replace s39 : F10.eval (.tmp 39) = ED := by rw [← hF10, eval_put_ne' (by decide)]; exact s39
            replace s40 : F10.eval (.tmp 40) = .bool false := by rw [← hF10, eval_put_ne' (by decide)]; exact s40
            have s7 : F10.eval (.tmp 7) = .pointer (some ⟨g5, 0, none⟩) := by rw [← hF10]; exact eval_put_eq' (by rw [hsz]; decide)
            replace hsz : F10.tmps.size = 53 := by rw [← hF10, size_put]; exact hsz
            refine wpAnyH_all (rs := [10]) (by kernel_rfl) (by simp) ?_
            intro j hj
            obtain rfl : j = 10 := by simpa using hj
            refine op_store 10 rfl rfl rfl _ _ 38 rfl g5 38 (enC default) (enC default) s7 (s39.trans hED) hR5 rfl (enC_one _) (by kernel_rfl) ?_
            intro w9 hr9 hg9
            have hS9 : W7.grownBy w9 none := grown_own hS5 hg9 hsg
            refine ⟨hS9, ?_⟩
            refine held_take 11 (.bool false) rfl rfl (by kernel_rfl) (by kernel_rfl) (by kernel_rfl) (fun _ _ _ h => h) (fun w hS => (ex_assign rfl).trans (by rw [s40])) hS9 ?_
            obtain ⟨F11, hF11⟩ : ∃ A, F10.put (some 8) (.bool false) = A := ⟨_, rfl⟩
            change wpAnyH _ _ _ _ _ _ _ (F10.put (some 8) (.bool false)) _
            rw [hF11]
            replace s35 : F11.eval (.tmp 35) = .slice (some ad) k c := by rw [← hF11, eval_put_ne' (by decide)]; exact s35
            replace s37 : F11.eval (.tmp 37) = .string (bts t.path) := by rw [← hF11, eval_put_ne' (by decide)]; exact s37
            replace s38 : F11.eval (.tmp 38) = u3 := by rw [← hF11, eval_put_ne' (by decide)]; exact s38
            replace s32 : F11.eval (.tmp 32) = u3 := by rw [← hF11, eval_put_ne' (by decide)]; exact s32
            replace s39 : F11.eval (.tmp 39) = ED := by rw [← hF11, eval_put_ne' (by decide)]; exact s39
            replace s40 : F11.eval (.tmp 40) = .bool false := by rw [← hF11, eval_put_ne' (by decide)]; exact s40
            replace s7 : F11.eval (.tmp 7) = .pointer (some ⟨g5, 0, none⟩) := by rw [← hF11, eval_put_ne' (by decide)]; exact s7
            have s8 : F11.eval (.tmp 8) = .bool false := by rw [← hF11]; exact eval_put_eq' (by rw [hsz]; decide)
            replace hsz : F11.tmps.size = 53 := by rw [← hF11, size_put]; exact hsz
            refine wpAnyH_done (by kernel_rfl) ?_ _
            rw [← hF11, ← hF10, ← hF9, ← hF8, ← hF7, ← hF6, ← hF5, ← hF4, ← hF3, ← hF2, ← hF1, ← hA]
            have HX9 := Lib.hid (HX7.out.grown0 hS9)
            have HE9 := Lib.hid (HE7.out.grown0 hS9)
            have HG9 := Lib.hid (HG7.out.trans hS9)
            clear hr9 hg9 hS9 hS3 hS5 hR5 hS0 hg3 hsg hsz hu3 hED s35 s37 s38 s32 s39 s40 s7 s8 hF11 hF10 hF9 hF8 hF7 hF6 hF5 hF4 hF3 hF2 hF1 hA
            simp only [Act.put, List.setIfInBounds_toArray, List.set_cons_succ, List.set_cons_zero]
            have hnb : n ≤ 20 := HL.out
            have hee : (!eqE t t) = false := by simp [(eqE_iff t t).2 rfl]
            go_wp2_with (first
              | (refine wpList_runsE rfl (st_loadP rfl rfl (fun i u hu => HX9.out.cellsAt (grown_refl _ _) i u hu)) ?_; intro v44 hv44; obtain rfl : v44 = _ := hv44)
              | (refine wpList_runsE rfl (st_loadP rfl rfl (fun i u hu => HE9.out.cellsAt (grown_refl _ _) i u hu)) ?_; intro v45 hv45; obtain rfl : v45 = _ := hv45)
              | (refine wpList_runsE rfl (st_neP rfl rfl rfl) ?_; intro v46 hv46; obtain rfl : v46 = _ := hv46; rw [hee]))
            go_roundw
            case rel => exact ⟨k + 1, by go_num, by omega, HG9.out⟩
            case measure =>
              simp only [intOf]
              omega
          · refine op_val 9 rfl rfl (ex_allocE rfl) ?_
            have hS5 := grown_alloc hS0 (.cells (enC default).toArray 38)
            have hR5 := Row.new W7.drew 38 (enC default)
            have hsg := hS0.size
            refine ⟨hS5, ?_⟩
            obtain ⟨W5, hW5⟩ : ∃ W5, W7.drew.alloc (.cells (enC default).toArray 38) = W5 := ⟨_, rfl⟩
            change wpAnyH _ _ _ _ _ _ _ _ (W7.drew.alloc (.cells (enC default).toArray 38))
            rw [hW5] at hS5 hR5 ⊢
            clear hW5
            generalize hgg : W7.drew.heap.size = g5 at *
            obtain ⟨F6, hF6⟩ : ∃ A, F5.put (some 7) (.pointer (some ⟨g5, 0, none⟩)) = A := ⟨_, rfl⟩
            change wpAnyH _ _ _ _ _ _ _ (F5.put (some 7) (.pointer (some ⟨g5, 0, none⟩))) _
            rw [hF6]
            replace s35 : F6.eval (.tmp 35) = .slice (some ad) k c := by rw [← hF6, eval_put_ne' (by decide)]; exact s35
            replace s37 : F6.eval (.tmp 37) = .string (bts t.path) := by rw [← hF6, eval_put_ne' (by decide)]; exact s37
            have s7 : F6.eval (.tmp 7) = .pointer (some ⟨g5, 0, none⟩) := by rw [← hF6]; exact eval_put_eq' (by rw [hsz]; decide)
            replace hsz : F6.tmps.size = 53 := by rw [← hF6, size_put]; exact hsz
            refine wpAnyH_all (rs := [5]) (by kernel_rfl) (by simp) ?_
            intro j hj
            obtain rfl : j = 5 := by simpa using hj
            refine op_call 5 rfl rfl (ex_call2 Tryd.func22 (by kernel_rfl) (by kernel_rfl) rfl) ?_
            rw [s35, s37]
            refine (HF2.out _ _ (HVK.out.grown0 hS5)).mono ?_
            rintro e3 w3 ⟨u3, rfl, hg3, hu3⟩
            replace hu3 : u3 = .tuple #[ED, .bool false] := by rw [hED]; exact hu3
            have hS3 := World.grownBy.trans hS5 hg3
            refine ⟨u3, rfl, hS3, ?_⟩
            obtain ⟨F7, hF7⟩ : ∃ A, F6.put (some 38) (u3) = A := ⟨_, rfl⟩
            change wpAnyH _ _ _ _ _ _ _ (F6.put (some 38) (u3)) _
            rw [hF7]
            replace s35 : F7.eval (.tmp 35) = .slice (some ad) k c := by rw [← hF7, eval_put_ne' (by decide)]; exact s35
            replace s37 : F7.eval (.tmp 37) = .string (bts t.path) := by rw [← hF7, eval_put_ne' (by decide)]; exact s37
            replace s7 : F7.eval (.tmp 7) = .pointer (some ⟨g5, 0, none⟩) := by rw [← hF7, eval_put_ne' (by decide)]; exact s7
            have s38 : F7.eval (.tmp 38) = u3 := by rw [← hF7]; exact eval_put_eq' (by rw [hsz]; decide)
            replace hsz : F7.tmps.size = 53 := by rw [← hF7, size_put]; exact hsz
            refine held_take 6 (u3) rfl rfl (by kernel_rfl) (by kernel_rfl) (by kernel_rfl) (fun _ _ _ h => h) (fun w hS => (ex_move rfl).trans (by rw [s38])) hS3 ?_
            obtain ⟨F8, hF8⟩ : ∃ A, F7.put (some 32) (u3) = A := ⟨_, rfl⟩
            change wpAnyH _ _ _ _ _ _ _ (F7.put (some 32) (u3)) _
            rw [hF8]
            replace s35 : F8.eval (.tmp 35) = .slice (some ad) k c := by rw [← hF8, eval_put_ne' (by decide)]; exact s35
            replace s37 : F8.eval (.tmp 37) = .string (bts t.path) := by rw [← hF8, eval_put_ne' (by decide)]; exact s37
            replace s7 : F8.eval (.tmp 7) = .pointer (some ⟨g5, 0, none⟩) := by rw [← hF8, eval_put_ne' (by decide)]; exact s7
            replace s38 : F8.eval (.tmp 38) = u3 := by rw [← hF8, eval_put_ne' (by decide)]; exact s38
            have s32 : F8.eval (.tmp 32) = u3 := by rw [← hF8]; exact eval_put_eq' (by rw [hsz]; decide)
            replace hsz : F8.tmps.size = 53 := by rw [← hF8, size_put]; exact hsz
            refine held_take 7 (ED) rfl rfl (by kernel_rfl) (by kernel_rfl) (by kernel_rfl) (fun _ _ _ h => h) (fun w hS => ex_ext rfl (s32.trans hu3) rfl) hS3 ?_
            obtain ⟨F9, hF9⟩ : ∃ A, F8.put (some 39) (ED) = A := ⟨_, rfl⟩
            change wpAnyH _ _ _ _ _ _ _ (F8.put (some 39) (ED)) _
            rw [hF9]
            replace s35 : F9.eval (.tmp 35) = .slice (some ad) k c := by rw [← hF9, eval_put_ne' (by decide)]; exact s35
            replace s37 : F9.eval (.tmp 37) = .string (bts t.path) := by rw [← hF9, eval_put_ne' (by decide)]; exact s37
            replace s7 : F9.eval (.tmp 7) = .pointer (some ⟨g5, 0, none⟩) := by rw [← hF9, eval_put_ne' (by decide)]; exact s7
            replace s38 : F9.eval (.tmp 38) = u3 := by rw [← hF9, eval_put_ne' (by decide)]; exact s38
            replace s32 : F9.eval (.tmp 32) = u3 := by rw [← hF9, eval_put_ne' (by decide)]; exact s32
            have s39 : F9.eval (.tmp 39) = ED := by rw [← hF9]; exact eval_put_eq' (by rw [hsz]; decide)
            replace hsz : F9.tmps.size = 53 := by rw [← hF9, size_put]; exact hsz
            refine held_take 8 (.bool false) rfl rfl (by kernel_rfl) (by kernel_rfl) (by kernel_rfl) (fun _ _ _ h => h) (fun w hS => ex_ext rfl (s32.trans hu3) rfl) hS3 ?_
            obtain ⟨F10, hF10⟩ : ∃ A, F9.put (some 40) (.bool false) = A := ⟨_, rfl⟩
            change wpAnyH _ _ _ _ _ _ _ (F9.put (some 40) (.bool false)) _
            rw [hF10]
            replace s35 : F10.eval (.tmp 35) = .slice (some ad) k c := by rw [← hF10, eval_put_ne' (by decide)]; exact s35
            replace s37 : F10.eval (.tmp 37) = .string (bts t.path) := by rw [← hF10, eval_put_ne' (by decide)]; exact s37
            replace s7 : F10.eval (.tmp 7) = .pointer (some ⟨g5, 0, none⟩) := by rw [← hF10, eval_put_ne' (by decide)]; exact s7
            replace s38 : F10.eval (.tmp 38) = u3 := by rw [← hF10, eval_put_ne' (by decide)]; exact s38
            replace s32 : F10.eval (.tmp 32) = u3 := by rw [← hF10, eval_put_ne' (by decide)]; exact s32
            replace s39 : F10.eval (.tmp 39) = ED := by rw [← hF10, eval_put_ne' (by decide)]; exact s39
            have s40 : F10.eval (.tmp 40) = .bool false := by rw [← hF10]; exact eval_put_eq' (by rw [hsz]; decide)
            replace hsz : F10.tmps.size = 53 := by rw [← hF10, size_put]; exact hsz
            refine wpAnyH_all (rs := [10]) (by kernel_rfl) (by simp) ?_
            intro j hj
            obtain rfl : j = 10 := by simpa using hj
            refine op_store 10 rfl rfl rfl _ _ 38 rfl g5 38 (enC default) (enC default) s7 (s39.trans hED) (hR5.grown0 hg3) rfl (enC_one _) (by kernel_rfl) ?_
            intro w9 hr9 hg9
            have hS9 : W7.grownBy w9 none := grown_own hS3 hg9 hsg
            refine ⟨hS9, ?_⟩
            refine held_take 11 (.bool false) rfl rfl (by kernel_rfl) (by kernel_rfl) (by kernel_rfl) (fun _ _ _ h => h) (fun w hS => (ex_assign rfl).trans (by rw [s40])) hS9 ?_
            obtain ⟨F11, hF11⟩ : ∃ A, F10.put (some 8) (.bool false) = A := ⟨_, rfl⟩
            change wpAnyH _ _ _ _ _ _ _ (F10.put (some 8) (.bool false)) _
            rw [hF11]
            replace s35 : F11.eval (.tmp 35) = .slice (some ad) k c := by rw [← hF11, eval_put_ne' (by decide)]; exact s35
            replace s37 : F11.eval (.tmp 37) = .string (bts t.path) := by rw [← hF11, eval_put_ne' (by decide)]; exact s37
            replace s7 : F11.eval (.tmp 7) = .pointer (some ⟨g5, 0, none⟩) := by rw [← hF11, eval_put_ne' (by decide)]; exact s7
            replace s38 : F11.eval (.tmp 38) = u3 := by rw [← hF11, eval_put_ne' (by decide)]; exact s38
            replace s32 : F11.eval (.tmp 32) = u3 := by rw [← hF11, eval_put_ne' (by decide)]; exact s32
            replace s39 : F11.eval (.tmp 39) = ED := by rw [← hF11, eval_put_ne' (by decide)]; exact s39
            replace s40 : F11.eval (.tmp 40) = .bool false := by rw [← hF11, eval_put_ne' (by decide)]; exact s40
            have s8 : F11.eval (.tmp 8) = .bool false := by rw [← hF11]; exact eval_put_eq' (by rw [hsz]; decide)
            replace hsz : F11.tmps.size = 53 := by rw [← hF11, size_put]; exact hsz
            refine wpAnyH_done (by kernel_rfl) ?_ _
            rw [← hF11, ← hF10, ← hF9, ← hF8, ← hF7, ← hF6, ← hF5, ← hF4, ← hF3, ← hF2, ← hF1, ← hA]
            have HX9 := Lib.hid (HX7.out.grown0 hS9)
            have HE9 := Lib.hid (HE7.out.grown0 hS9)
            have HG9 := Lib.hid (HG7.out.trans hS9)
            clear hr9 hg9 hS9 hS3 hS5 hR5 hS0 hg3 hsg hsz hu3 hED s35 s37 s7 s38 s32 s39 s40 s8 hF11 hF10 hF9 hF8 hF7 hF6 hF5 hF4 hF3 hF2 hF1 hA
            simp only [Act.put, List.setIfInBounds_toArray, List.set_cons_succ, List.set_cons_zero]
            have hnb : n ≤ 20 := HL.out
            have hee : (!eqE t t) = false := by simp [(eqE_iff t t).2 rfl]
            go_wp2_with (first
              | (refine wpList_runsE rfl (st_loadP rfl rfl (fun i u hu => HX9.out.cellsAt (grown_refl _ _) i u hu)) ?_; intro v44 hv44; obtain rfl : v44 = _ := hv44)
              | (refine wpList_runsE rfl (st_loadP rfl rfl (fun i u hu => HE9.out.cellsAt (grown_refl _ _) i u hu)) ?_; intro v45 hv45; obtain rfl : v45 = _ := hv45)
              | (refine wpList_runsE rfl (st_neP rfl rfl rfl) ?_; intro v46 hv46; obtain rfl : v46 = _ := hv46; rw [hee]))
            go_roundw
            case rel => exact ⟨k + 1, by go_num, by omega, HG9.out⟩
            case measure =>
              simp only [intOf]
              omega
-- END
        · have hkn : k = n := by omega
          subst hkn
          have d0 : decide ((k : Int) < (k : Int)) = false := decide_eq_false (by omega)
          go_wp2_with fail
          refine (HAW.out _).mono ?_
          rintro e6 w6 ⟨rfl, hg6⟩
          go_wp2
          go_ret
          exact ⟨rfl, HG.out.trans hg6⟩
end Go.Proofs.YtiakkfcjdmecdaaDoor
