/-
  derive.Code over this program: the code of parts under a key.
-/
import Derived.Test.YtmhcfbfdbminnaaDoorDerBlock
import Derived.Test.YtmhcfbfdbminnaaDoorDerConcat
namespace Go.Proofs.YtmhcfbfdbminnaaDoor
open Go.RowKit

section
variable {P : Program} {ops : Array Oper} {Q : Exit → Act → World → Prop} {n : Nat} {eff : List (Nat × Nat)} {w0 : World} {a0 : Act} {tail : List Oper}
/-- An operation that makes memory, in a region that draws its order. -/
theorem Walk.make {env : List (Value → World → Prop)} {k : Nat} {o : Oper} {rest : List Oper} {G : Value → World → Prop} (hl : StaysBut eff k G) (ho : ops[k]? = some o) (hdst : o.dst.isSome = true)
    (hs : ∀ a w, Mid2 ops n eff w0 a0 a w → Ahead eff k w0 w → Deps2 ops env.reverse o a w → Wanted ops o a ∧ ∃ v w', (execOp a.eval o).run P w = .ok (.value v) w' ∧ w.grownBy w' (rowAt eff k) ∧ G v w')
    (hc : Walk P ops Q n eff w0 a0 tail (k + 1) rest (G :: env)) : Walk P ops Q n eff w0 a0 tail k (o :: rest) env := by
  refine ⟨G, hl, fun a w hm ha hd => ?_, hc⟩
  obtain ⟨hw, v, w', hr, hg, hG⟩ := hs a w hm ha hd
  unfold wpOp
  rw [ho]
  simp only
  rw [if_pos (show Region.wanted o (yielded ops a.tmps) = true from hw)]
  refine .inl ?_
  unfold Oper.wp
  rw [hr, Oper.upon_value]
  exact ⟨v, rfl, hg, hG, fun h => by rw [h] at hdst; cases hdst⟩
end
section
variable {o : Oper} {a : Act} {w : World}
theorem ex_slice32 {x : Operand} {g : Nat} (h : o.op = .slice 24 x none none none) (hx : a.eval x = .pointer (some ⟨g, 0, none⟩)) : (execOp a.eval o).run Tryd.prog w = .ok (.value (.slice (some ⟨g, 0, none⟩) 32 32)) w := by
  simp only [execOp, h, hx, Option.map_none]
  simp [go_sem, Instr.sliceAt, Instr.sliceBounds, Addr.add]
theorem ex_build2S {x0 x1 : Operand} {u0 u1 : Value} {A0 A1 : Option Addr} {n0 c0 n1 c1 : Nat} (h : o.op = .buildSlice 33 2 #[(0, x0), (1, x1)])
    (h0 : a.eval x0 = u0) (h1 : a.eval x1 = u1) (e0 : u0 = .slice A0 n0 c0) (e1 : u1 = .slice A1 n1 c1) :
    (execOp a.eval o).run Tryd.prog w = .ok (.value (.slice (some ⟨w.heap.size, 0, none⟩) 2 2)) (w.alloc (.cells #[u0, u1] 22)) := by
  subst e0 e1
  simp only [execOp, h, h0, h1, List.map_toArray, List.map_cons, List.map_nil]
  go_simp
end

theorem Parts.one {w : World} {vs : List Value} {ls : List (List UInt8)} (h : Parts w vs ls) : ∀ x ∈ vs, x.oneCell' = true := by
  intro x hx
  obtain ⟨i, hi, rfl⟩ := List.getElem_of_mem hx
  have hil : i < ls.length := by rw [← h.1]; exact hi
  obtain ⟨A, c, e⟩ := (h.2 i _ _ (List.getElem?_eq_getElem hi) (List.getElem?_eq_getElem hil)).form
  rw [e]
  rfl
theorem Parts.grown {w w' : World} {vs : List Value} {ls : List (List UInt8)} (h : Parts w vs ls) (hg : w.grownBy w' none) : Parts w' vs ls :=
  ⟨h.1, fun i u m hu hm => (h.2 i u m hu hm).grown0 hg⟩
theorem Rd.newAt (w : World) (xs : List Value) (t : TypeId) (c : Nat) (h : xs.length ≤ c) (hc : c ≤ maxLen) {g : Nat} (hg : w.heap.size = g) :
    Rd (w.alloc (.cells xs.toArray t)) (.slice (some ⟨g, 0, none⟩) xs.length c) xs := by subst hg; exact Rd.new w xs t (0, 0) c h hc
theorem Tab.lt {w : World} (h : Tab w) : 0 < w.heap.size := h.pos

set_option maxHeartbeats 4000000 in
theorem code_any (A : Option Addr) (n c : Nat) (l : List UInt8) (v : Value) (vs : List Value) (ls : List (List UInt8)) (w : World) (hT : Tab w) (hr : Rd w (.slice A n c) (bytesV l)) (hv : Rd w v vs) (hp : Parts w vs ls)
    (hn : n ≤ 1000000) (hk : vs.length ≤ 1000) (hlen : ls.flatten.length ≤ 1000000000) :
    Calls Tryd.prog 11 #[.slice A n c, v] w (Val (.agg (bytesV (hmac l ls.flatten)).toArray) w) := by
  have HR := Lib.hid hr
  have HT := Lib.hid hT
  have HV := Lib.hid hv
  have HP := Lib.hid hp
  have HK := Lib.hid hk
  have HLEN := Lib.hid hlen
  obtain ⟨A1, c1, rfl⟩ := hv.form
  have HBL := Lib.hid (bkey_len l)
  have HH := Lib.hid (show hmac l ls.flatten = sha (mask 92 (bkey l) ++ sha (mask 54 (bkey l) ++ ls.flatten)) from rfl)
  have hg0 := grown_alloc (grown_refl w none) (.cells (noughts8 32).toArray 24)
  have HBK := Lib.hid (blockKey_any A n c l _ (hT.grown hg0) (hr.grown0 hg0) (by omega))
  have R0 := Lib.hid (Row.new w 24 (noughts8 32))
  have HG0 := Lib.hid hg0
  generalize vs.length = k at *
  clear hT hr hv hp hk hlen hg0 hn
  go_enter Tryd.func11, Tryd.ntmps11
  go_wp2_with fail
  refine HBK.out.mono ?_
  rintro e w1 ⟨rfl, hg1⟩
  have HG1 := Lib.hid (HG0.out.trans hg1)
  have R01 := Lib.hid (R0.out.grown0 hg1)
  generalize hG : w.heap.size = G at *
  have HG := Lib.hid hG
  clear hg1 HBK R0 HG0 hG
  generalize bkey l = K at *
  have HO := Lib.hid (fun x hx => bytesV_one K x hx)
  have HKL := Lib.hid (show (bytesV K).length = 64 by rw [bytesV_len, HBL.out])
  have HZ := Lib.hid (show (bytesV K).length = zeros64.length by rw [HKL.out]; rfl)
  go_wp2_with (first
    | (refine wpList_store_row _ rfl rfl _ _ _ rfl w1.heap.size 34 zeros64 (bytesV K) rfl rfl (Row.new w1 34 zeros64) HZ.out HO.out (by rw [HKL.out]; kernel_rfl) ?_; intro w2 hr2 hg2; have R2 := Lib.hid hr2; have HG2 := Lib.hid hg2; clear hr2 hg2)
    | refine wpList_load_row _ rfl _ _ rfl w1.heap.size 34 (bytesV K) _ rfl R2.out Tryd.underlying34 rfl (by rw [HKL.out]; kernel_rfl) ?_)
  have HGW2 := Lib.hid (show w.grownBy w2 none from grown_own (grown_alloc HG1.out _) HG2.out HG1.out.size)
  have R02 := Lib.hid (show Row w2 G 24 (noughts8 32) from (R01.out.alloc _).grown HG2.out (by have := R01.out.lt; simp; omega))
  generalize w1.heap.size = g1 at *
  clear HG2 R01 HG1 HZ
  have hm54 : ((54 : UInt8).toNat : Int) = 54 := rfl
  refine (hm54 ▸ masked_any K HBL.out 54 w2).mono ?_
  rintro e w3 ⟨u3, rfl, hru3, hg3, hub3⟩
  have hx3 := hru3.form
  obtain ⟨A3, c3, rfl⟩ := hx3
  have HRU3 := Lib.hid hru3
  have HG3 := Lib.hid hg3
  generalize (bytesV (mask 54 K)).length = n3 at *
  clear hru3 hg3 hub3 hm54
  have HC1 := Lib.hid (show w3.grownBy ((w3.alloc (.cells #[.slice A3 n3 c3] 22)).alloc (.cells #[.slice (some ⟨w3.heap.size, 0, none⟩) 1 1, .slice A1 k c1] 33)) none from grown_alloc (grown_alloc (grown_refl _ _) _) _)
  have HCON := Lib.hid (concat_any (.slice (some ⟨w3.heap.size + 1, 0, none⟩) 2 2) [.slice (some ⟨w3.heap.size, 0, none⟩) 1 1, .slice A1 k c1] [[.slice A3 n3 c3], vs]
    ((w3.alloc (.cells #[.slice A3 n3 c3] 22)).alloc (.cells #[.slice (some ⟨w3.heap.size, 0, none⟩) 1 1, .slice A1 k c1] 33))
    (Rd.newAt (w3.alloc (.cells #[.slice A3 n3 c3] 22)) [.slice (some ⟨w3.heap.size, 0, none⟩) 1 1, .slice A1 k c1] 33 2 (Nat.le_refl _) (by decide) (by simp))
    (RowsOf.two ((Rd.newAt w3 [.slice A3 n3 c3] 22 1 (Nat.le_refl _) (by decide) rfl).alloc _) (HV.out.grown0 ((HGW2.out.trans HG3.out).trans HC1.out)))
    (fun x hx => by
      simp only [List.flatten_cons, List.flatten_nil, List.append_nil, List.cons_append, List.nil_append, List.mem_cons] at hx
      rcases hx with rfl | hx
      · rfl
      · exact HP.out.one x hx)
    (by have := HK.out; have := HV.out.len.1; simp; omega))
  go_wp2_with fail
  refine HCON.out.mono ?_
  rintro e w4 ⟨v4, rfl, hr4, hg4⟩
  have hr4' : Rd w4 v4 (.slice A3 n3 c3 :: vs) := by simpa using hr4
  have HG4 := Lib.hid (HC1.out.trans hg4)
  have hp4 : Parts w4 (.slice A3 n3 c3 :: vs) (mask 54 K :: ls) := Parts.cons (HRU3.out.grown0 HG4.out) (HP.out.grown ((HGW2.out.trans HG3.out).trans HG4.out))
  have hT4 : Tab w4 := HT.out.grown ((HGW2.out.trans HG3.out).trans HG4.out)
  have HOF := Lib.hid (of_any v4 _ _ w4 hT4 hT4.pos hr4' hp4 (by have := HLEN.out; have := HBL.out; rw [List.flatten_cons, List.length_append, mask_len]; omega))
  have hx4 := hr4'.form
  obtain ⟨A4, c4, rfl⟩ := hx4
  generalize (Value.slice A3 n3 c3 :: vs).length = n4 at *
  clear hr4 hr4' hg4 hp4 hT4 HCON HC1
  go_wp2_with fail
  refine HOF.out.mono ?_
  rintro e w5 ⟨rfl, hg5⟩
  have HGW5 := Lib.hid (((HGW2.out.trans HG3.out).trans HG4.out).trans hg5)
  have HG25 := Lib.hid ((HG3.out.trans HG4.out).trans hg5)
  have HI32 := Lib.hid (show (bytesV (sha (mask 54 K :: ls).flatten)).length = 32 by rw [bytesV_len, sha_l32])
  have HIZ := Lib.hid (show (bytesV (sha (mask 54 K :: ls).flatten)).length = (noughts8 32).length by rw [HI32.out]; rfl)
  have HIO := Lib.hid (fun x hx => bytesV_one (sha (mask 54 K :: ls).flatten) x hx)
  have HHS := Lib.hid (show hmac l ls.flatten = sha (mask 92 K ++ sha (mask 54 K :: ls).flatten) by rw [HH.out, List.flatten_cons])
  generalize sha (mask 54 K :: ls).flatten = inner at *
  clear hg5 HOF HG4 HRU3 HG3 HH
  go_wp2_with (refine wpList_store_row _ rfl rfl _ _ _ rfl w5.heap.size 24 (noughts8 32) (bytesV inner) rfl rfl (Row.new w5 24 (noughts8 32)) HIZ.out HIO.out (by rw [HI32.out]; kernel_rfl) ?_; intro w6 hr6 hg6)
  have hg56 : w5.grownBy w6 none := grown_own (grown_alloc (grown_refl _ _) _) hg6 (Nat.le_refl _)
  have HGW6 := Lib.hid (HGW5.out.trans hg56)
  have HG26 := Lib.hid (HG25.out.trans hg56)
  have R6 := Lib.hid hr6
  have RK := Lib.hid (R2.out.grown0 HG26.out)
  have R0 := Lib.hid (R02.out.grown0 HG26.out)
  have HT6 := Lib.hid (HT.out.grown HGW6.out)
  generalize w5.heap.size = g5 at *
  clear hr6 hg6 hg56 HGW5 HG25 HG26 R2 R02 HIZ HIO
  refine wp_region_walk 5 [] dis_nil (by kernel_rfl) (by kernel_rfl) (by kernel_rfl) ?_
  simp only [List.take_succ_cons, List.take_zero, List.drop_succ_cons, List.drop_zero]
  refine Walk.val (G := Is (.agg (bytesV K).toArray)) (stays_is _ _) rfl rfl (fun a w hm hd => ⟨wanted_plain rfl, _, ex_load_row rfl g1 34 _ _ (by rw [hm.outer 5 (by kernel_rfl)]; rfl) (RK.out.grown0 hm.grow.none') Tryd.underlying34 rfl (by rw [HKL.out]; kernel_rfl), rfl⟩) ?_
  refine Walk.call (G := IsB (mask 92 K)) (fun _ _ _ _ _ h hg => Rd.grown0 h hg) rfl 19 rfl (fun a w hm _ hd => ⟨wanted_plain rfl, _, ex_call2 Tryd.func19 (by kernel_rfl) (by kernel_rfl) rfl, by
    have e0 : a.eval (.tmp 16) = _ := hd.at_ 0 rfl rfl rfl rfl
    rw [e0]
    refine (masked_any K HBL.out 92 w).mono ?_
    rintro e w' ⟨u, rfl, hru, hg, _⟩
    exact ⟨_, rfl, hg, hru⟩⟩) ?_
  refine Walk.val (G := Is (.slice (some ⟨g5, 0, none⟩) 32 32)) (stays_is _ _) rfl rfl (fun a w hm hd => ⟨wanted_plain rfl, _, ex_slice32 rfl (by rw [hm.outer 6 (by kernel_rfl)]; rfl), rfl⟩) ?_
  refine Walk.make (G := fun v W => ∃ u, Rd W v [u, .slice (some ⟨g5, 0, none⟩) 32 32] ∧ IsB (mask 92 K) u W) (fun _ _ _ _ _ ⟨u, h1, h2⟩ hg => ⟨u, h1.grown0 hg, Rd.grown0 h2 hg⟩) rfl rfl (fun a w hm _ hd => ⟨wanted_plain rfl, by
    have h1 : IsB (mask 92 K) (a.eval (.tmp 17)) w := hd.at_ 1 rfl rfl rfl rfl
    have h2 : a.eval (.tmp 18) = _ := hd.at_ 2 rfl rfl rfl rfl
    obtain ⟨Au, cu, hu⟩ := Rd.form h1
    exact ⟨_, _, ex_build2S rfl rfl h2 hu rfl, grown_alloc (grown_refl _ _) _, _, Rd.new w [_, _] 22 (0, 0) 2 (Nat.le_refl _) (by decide), Rd.alloc h1 _⟩⟩) ?_
  refine Walk.call (G := Is (.agg (bytesV (hmac l ls.flatten)).toArray)) (stays_is _ _) rfl 17 rfl (fun a w hm _ hd => ⟨wanted_plain rfl, _, ex_call1 Tryd.func17 (by kernel_rfl) (by kernel_rfl) rfl, by
    obtain ⟨u, h1, h2⟩ := hd.at_ (G := fun v W => ∃ u, Rd W v [u, .slice (some ⟨g5, 0, none⟩) 32 32] ∧ IsB (mask 92 K) u W) 3 rfl rfl rfl rfl
    have hTw := HT6.out.grown hm.grow.none'
    have hp : Parts w [u, .slice (some ⟨g5, 0, none⟩) 32 32] [mask 92 K, inner] := Parts.cons h2 (Parts.cons ((R6.out.grown0 hm.grow.none').rds 32 32 HI32.out (by decide) (by decide)) (Parts.nil _))
    have hof := of_any _ _ _ w hTw hTw.pos h1 hp (by have := HBL.out; have h32 := HI32.out; rw [bytesV_len] at h32; simp [mask_len]; omega)
    have e : [mask 92 K, inner].flatten = mask 92 K ++ inner := by simp
    rw [e, ← HHS.out] at hof
    refine hof.mono ?_
    rintro e w' ⟨rfl, hg⟩
    exact ⟨_, rfl, hg, rfl⟩⟩) ?_
  intro a w7 hm hall
  have f4 : a.eval (.tmp 20) = .agg (bytesV (hmac l ls.flatten)).toArray := hall 4 _ _ rfl rfl
  have e4 : a.eval (.tmp 4) = .pointer (some ⟨G, 0, none⟩) := by rw [hm.outer 4 (by kernel_rfl)]; rfl
  have HL32 := Lib.hid (show (bytesV (hmac l ls.flatten)).length = 32 by rw [bytesV_len, hmac_len])
  refine wpList_store_row _ rfl rfl _ _ _ rfl G 24 (noughts8 32) (bytesV (hmac l ls.flatten)) e4 f4 (R0.out.grown0 hm.grow.none') (by rw [HL32.out]; rfl) (bytesV_one _) (by rw [HL32.out]; kernel_rfl) ?_
  intro w8 hr8 hg8
  have hde : a.defers = [] := hm.defers
  have HG8 := Lib.hid (grown_own (HGW6.out.trans hm.grow.none') hg8 (Nat.le_of_eq HG.out))
  have R8 := Lib.hid hr8
  have E4 := Lib.hid e4
  clear hr8 hg8 hall hm f4 e4
  obtain ⟨tm, df⟩ := a
  subst hde
  unfold wpList
  go_simp
  go_wp2
  refine bodyPost_ret (v := .agg (bytesV (hmac l ls.flatten)).toArray) ?_ rfl ⟨rfl, HG8.out⟩
  exact results_row Tryd.results11 G 24 _ _ E4.out R8.out Tryd.underlying24 rfl (by rw [HL32.out]; kernel_rfl)
end Go.Proofs.YtmhcfbfdbminnaaDoor
