/-
  derive.blockKey over this program: the block key of a key.
-/
import Derived.Test.YtmhcfbfdbminnaaDoorDerMask
namespace Go.Proofs.YtmhcfbfdbminnaaDoor
open Go.RowKit

/-- copy of bytes into a block of which the room is known. -/
theorem run_copy_rd (w : World) (ty : TypeId) (g off dLen dCap : Nat) (u : Value) (l : List UInt8) (hr : Rd w u (bytesV l)) (cur : List Value) (t : TypeId) (hg : Row w g t cur) (hfit : off + dLen ≤ cur.length) :
    ∃ w', (Builtin.copy_ #[22, 22] ty #[.slice (some ⟨g, off, none⟩) dLen dCap, u]).run Tryd.prog w = .ok (.int .i64 ((min l.length dLen : Nat) : Int)) w' ∧ Row w' g t (splice cur off (bytesV (l.take dLen))) ∧ w.grownBy w' (some g) := by
  obtain ⟨A, c, rfl, hlc, hcm, hcell⟩ := hr
  cases A with
  | none =>
    have hn : l = [] := by
      rcases l with _ | ⟨x, l⟩
      · rfl
      · obtain ⟨ad, h, _⟩ := hcell (by simp [bytesV]); cases h
    subst hn
    refine ⟨w, ?_, ?_, grown_refl _ _⟩
    · have hi : (sizeOf 5).run Tryd.prog w = .ok 1 w := by kernel_rfl
      simp [Builtin.copy_, run_underlying Tryd.underlying22, Builtin.lenOf, Builtin.firstCells, hi, storeCells, bytesV, goInt]
    · have e : splice cur off (bytesV (([] : List UInt8).take dLen)) = cur := by simp [splice, bytesV]
      rw [e]
      exact hg
  | some ad =>
    have hcells : ∀ j v, (bytesV (l.take dLen))[j]? = some v → w.cell? (ad.add j) = some v := by
      intro j v hv
      have hv' : (bytesV l)[j]? = some v := by
        unfold bytesV at hv ⊢
        rw [List.map_take, List.getElem?_take] at hv
        split at hv
        · exact hv
        · cases hv
      have hne : bytesV l ≠ [] := by intro e; rw [e] at hv'; cases hv'
      obtain ⟨ad', h, hc⟩ := hcell hne
      injection h with h
      subst h
      exact hc j v hv'
    have hlen : (bytesV (l.take dLen)).length = Nat.min (bytesV l).length dLen := by
      rw [bytesV_len, bytesV_len, List.length_take, Nat.min_comm]
    have hrun := run_copy_row (P := Tryd.prog) w 22 22 ty 5 g off dLen dCap ad (bytesV l).length c cur.toArray t (bytesV (l.take dLen)) Tryd.underlying22 (by kernel_rfl) hg hlen hcells (by
      have : (bytesV (l.take dLen)).length ≤ dLen := by rw [hlen]; exact Nat.min_le_right _ _
      simp only [List.size_toArray]; omega) (bytesV_one _)
    have e : cur.toArray.toList.take off ++ bytesV (l.take dLen) ++ cur.toArray.toList.drop (off + (bytesV (l.take dLen)).length) = splice cur off (bytesV (l.take dLen)) := by simp [splice]
    rw [e, hlen, show Nat.min (bytesV l).length dLen = min l.length dLen by rw [bytesV_len]] at hrun
    exact ⟨w.setRow g (splice cur off (bytesV (l.take dLen))).toArray, hrun, Row.setRow hg _, grown_setRow w g _⟩
theorem wpList_copy_rd (w : World) {ops : Array Oper} {rest : List Oper} {o : Oper} {a : Act} {Q : Exit → Act → World → Prop} (hgd : o.guard = none) (d s : Operand)
    (ho : o.op = .call { callee := .builtin .copy, args := #[d, s], argTypes := #[22, 22] })
    (g off dLen dCap : Nat) (hd : a.eval d = .slice (some ⟨g, off, none⟩) dLen dCap) (u : Value) (l : List UInt8) (hs : a.eval s = u) (hr : Rd w u (bytesV l)) (cur : List Value) (t : TypeId) (hg : Row w g t cur) (hfit : off + dLen ≤ cur.length)
    (h : ∀ w', Row w' g t (splice cur off (bytesV (l.take dLen))) → w.grownBy w' (some g) → wpList Tryd.prog ops Q rest (a.put o.dst (.int .i64 ((min l.length dLen : Nat) : Int))) w') : wpList Tryd.prog ops Q (o :: rest) a w :=
  wpList_plain hgd fun _ hK => by
    obtain ⟨w', hrun, h1, h2⟩ := run_copy_rd w o.type g off dLen dCap u l hr cur t hg hfit
    unfold Oper.wp execOp
    simp only [ho, resolve, invoke, builtin, Sem.run_bind, Sem.run_pure, Result.andThen_ok, List.map_toArray, List.map_cons, List.map_nil, hd, hs, hrun]
    exact hK _ _ (h w' h1 h2)

/-- 64 noughts. -/
def zeros64 : List Value := bytesV (List.replicate 64 0)
theorem splice_key (k : List UInt8) (h : k.length ≤ 64) : splice zeros64 0 (bytesV (k.take 64)) = bytesV (k ++ List.replicate (64 - k.length) 0) := by
  have e : zeros64.drop k.length = bytesV (List.replicate (64 - k.length) 0) := by
    unfold zeros64 bytesV
    rw [← List.map_drop, List.drop_replicate]
  rw [List.take_of_length_le h, bytesV_app]
  unfold splice
  rw [List.take_zero, List.nil_append, Nat.zero_add, bytesV_len, e]

theorem of_one_at (v : Value) (l : List UInt8) (w : World) (t : TypeId) (H : Nat) (hH : w.heap.size = H) (hT : Tab w) (hr : Rd w v (bytesV l)) (hlen : l.length ≤ 100000000000) :
    Calls Tryd.prog 17 #[.slice (some ⟨H, 0, none⟩) 1 1] (w.alloc (.cells #[v] t)) (Val (.agg (bytesV (sha l)).toArray) (w.alloc (.cells #[v] t))) := by
  subst hH
  exact of_one v l w t hT hr hlen
theorem slice_arr32 (g : Nat) (w : World) : (Instr.sliceAt 24 (.pointer (some ⟨g, 0, none⟩)) none none none).run Tryd.prog w = .ok (.slice (some ⟨g, 0, none⟩) 32 32) w := by
  simp [Instr.sliceAt, go_sem, Instr.sliceBounds, Addr.add]

set_option maxHeartbeats 4000000 in
theorem blockKey_any (A : Option Addr) (n c : Nat) (l : List UInt8) (w : World) (hT : Tab w) (hr : Rd w (.slice A n c) (bytesV l)) (hn : n ≤ 100000000000) :
    Calls Tryd.prog 16 #[.slice A n c] w (Val (.agg (bytesV (bkey l)).toArray) w) := by
  have HR := Lib.hid hr
  have HT := Lib.hid hT
  have hl := hr.len.1
  rw [bytesV_len] at hl
  have HL := Lib.hid hl
  generalize hG : w.heap.size = G
  have HG := Lib.hid hG
  have hsl := slice_arr64 (G + 1)
  clear hr hT
  by_cases h : 64 < n
  · have hb : decide (64 < (n : Int)) = true := by simp; omega
    have HBK := Lib.hid (show splice zeros64 0 (bytesV ((sha l).take 64)) = bytesV (bkey l) by
      have h1 : shortK l = sha l := by unfold shortK; rw [if_pos (by omega)]
      unfold bkey
      rw [h1]
      exact splice_key (sha l) (by rw [sha_l32]; decide))
    have HBL := Lib.hid (show (bytesV (bkey l)).length = 64 by rw [bytesV_len, bkey_len])
    have HSL := Lib.hid (show (bytesV (sha l)).length = 32 by rw [bytesV_len, sha_l32])
    have R0 := Lib.hid ((Row.newAt w 34 zeros64 hG).alloc (.cells zeros64.toArray 34))
    have R1 := Lib.hid (Row.newAt (w.alloc (.cells zeros64.toArray 34)) 34 zeros64 (g := G + 1) (by simp [HG.out]))
    have HG0 := Lib.hid (grown_alloc (grown_alloc (grown_refl w none) (.cells zeros64.toArray 34)) (.cells zeros64.toArray 34))
    have HOF := Lib.hid (of_one_at (.slice A n c) l _ 22 (G + 1 + 1) (by simp [HG.out]) (HT.out.grown HG0.out) (HR.out.grown0 HG0.out) (by omega))
    clear h hl
    go_enter Tryd.func16, Tryd.ntmps16
    go_wp2_with fail
    refine HOF.out.mono ?_
    rintro e w1 ⟨rfl, hg1⟩
    have R01 := Lib.hid ((R0.out.alloc _).grown0 hg1)
    have R11 := Lib.hid ((R1.out.alloc _).grown0 hg1)
    have HG1 := Lib.hid ((grown_alloc HG0.out _).trans hg1)
    clear hg1 HOF R0 R1 HG0 hsl hG
    have hsl := slice_arr64 (G + 1)
    have hsl2 := slice_arr32 w1.heap.size
    have HO2 := Lib.hid (fun x hx => bytesV_one (sha l) x hx)
    have HZS := Lib.hid (show (bytesV (sha l)).length = (noughts8 32).length by rw [HSL.out]; rfl)
    go_wp2_with (refine wpList_store_row _ rfl rfl _ _ _ rfl w1.heap.size 24 (noughts8 32) (bytesV (sha l)) rfl rfl (Row.new w1 24 (noughts8 32)) HZS.out HO2.out (by rw [HSL.out]; kernel_rfl) ?_; intro w2 hr2 hg2)
    have hgw2 : w1.grownBy w2 none := grown_own (grown_alloc (grown_refl _ _) _) hg2 (Nat.le_refl _)
    obtain ⟨w3, hrun, hr3, hg3⟩ := run_copy_rd w2 3 (G + 1) 0 64 64 _ (sha l) (hr2.rds 32 32 HSL.out (by decide) (by decide)) zeros64 34 (R11.out.grown0 hgw2) (by decide)
    rw [hrun]
    rw [HBK.out] at hr3
    have R1 := Lib.hid hr3
    have R0 := Lib.hid ((R01.out.grown0 hgw2).grown hg3 (by simp))
    have HG3 := Lib.hid (grown_own (HG1.out.trans hgw2) hg3 (by have := HG.out; omega))
    have HO := Lib.hid (fun x hx => bytesV_one (bkey l) x hx)
    clear hrun hr3 hg3 hr2 hg2 hgw2 HBK HZS HO2 HSL R01 R11
    generalize bytesV (bkey l) = xs at *
    go_wp2_with (first
      | refine wpList_load_row _ rfl _ _ rfl (G + 1) 34 xs _ rfl R1.out Tryd.underlying34 rfl (by rw [HBL.out]; kernel_rfl) ?_
      | (refine wpList_store_row _ rfl rfl _ _ _ rfl G 34 _ xs rfl rfl R0.out (by rw [HBL.out]; rfl) HO.out (by rw [HBL.out]; kernel_rfl) ?_; intro w4 hr4 hg4))
    refine bodyPost_ret (v := .agg xs.toArray) ?_ rfl ⟨rfl, grown_own HG3.out hg4 (by have := HG.out; omega)⟩
    exact results_row Tryd.results16 G 34 xs _ rfl hr4 Tryd.underlying34 rfl (by rw [HBL.out]; kernel_rfl)
  · have hb : decide (64 < (n : Int)) = false := by simp; omega
    have HBK := Lib.hid (show splice zeros64 0 (bytesV (l.take 64)) = bytesV (bkey l) by
      have h1 : shortK l = l := by unfold shortK; rw [if_neg (by omega)]
      unfold bkey
      rw [h1]
      exact splice_key l (by omega))
    have HBL := Lib.hid (show (bytesV (bkey l)).length = 64 by rw [bytesV_len, bkey_len])
    have R0 := Lib.hid ((Row.newAt w 34 zeros64 hG).alloc (.cells zeros64.toArray 34))
    have R1 := Lib.hid (Row.newAt (w.alloc (.cells zeros64.toArray 34)) 34 zeros64 (g := G + 1) (by simp [HG.out]))
    have HG0 := Lib.hid (grown_alloc (grown_alloc (grown_refl w none) (.cells zeros64.toArray 34)) (.cells zeros64.toArray 34))
    clear h hl
    go_enter Tryd.func16, Tryd.ntmps16
    go_wp2
    generalize hW : (w.alloc _).alloc _ = W
    have r0 : Row W G 34 zeros64 := hW ▸ R0.out
    have r1 : Row W (G + 1) 34 zeros64 := hW ▸ R1.out
    have hgw : w.grownBy W none := hW ▸ HG0.out
    clear hW R0 R1 HG0 hsl
    obtain ⟨w1, hrun, hr1, hg1⟩ := run_copy_rd W 3 (G + 1) 0 64 64 _ l (HR.out.grown0 hgw) zeros64 34 r1 (by decide)
    rw [hrun]
    rw [HBK.out] at hr1
    have R1 := Lib.hid hr1
    have R0 := Lib.hid (r0.grown hg1 (by simp))
    have HG1 := Lib.hid (grown_own hgw hg1 (by have := HG.out; omega))
    have HO := Lib.hid (fun x hx => bytesV_one (bkey l) x hx)
    clear hrun hr1 hg1 r0 r1 hgw HBK hG
    generalize bytesV (bkey l) = xs at *
    go_wp2_with (first
      | refine wpList_load_row _ rfl _ _ rfl (G + 1) 34 xs _ rfl R1.out Tryd.underlying34 rfl (by rw [HBL.out]; kernel_rfl) ?_
      | (refine wpList_store_row _ rfl rfl _ _ _ rfl G 34 _ xs rfl rfl R0.out (by rw [HBL.out]; rfl) HO.out (by rw [HBL.out]; kernel_rfl) ?_; intro w2 hr2 hg2))
    refine bodyPost_ret (v := .agg xs.toArray) ?_ rfl ⟨rfl, grown_own HG1.out hg2 (by have := HG.out; omega)⟩
    exact results_row Tryd.results16 G 34 xs _ rfl hr2 Tryd.underlying34 rfl (by rw [HBL.out]; kernel_rfl)
end Go.Proofs.YtmhcfbfdbminnaaDoor
