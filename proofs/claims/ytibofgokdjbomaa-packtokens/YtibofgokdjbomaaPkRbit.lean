/-
  The document's own words of layer 11 over this program: a bit of a number; a bit of a chance that a map keeps.
-/
import Derived.Test.YtibofgokdjbomaaMapInt
import Derived.Test.YtibofgokdjbomaaRcoEnd
import Derived.Test.YtibofgokdjbomaaIntOps
namespace Go.Proofs.Ytibofgokdjbomaa
set_option maxRecDepth 1000000
open Go.RowKit

theorem quo2 (n : Nat) : ((n : Int)).tdiv 2 = ((n / 2 : Nat) : Int) := by rw [Int.tdiv_eq_ediv_of_nonneg (by omega)]; simp
theorem rem2 (n : Nat) : ((n : Int)).tmod 2 = ((n % 2 : Nat) : Int) := by rw [Int.tmod_eq_emod_of_nonneg (by omega)]; simp
theorem div_pow_next (n j : Nat) : n / 2 ^ j / 2 = n / 2 ^ (j + 1) := by rw [Nat.pow_succ, Nat.div_div_eq_div_mul]
theorem bitAt_nat (n k : Nat) : ((bitAt (n : Int) k).toNat : Int) = ((n / 2 ^ k % 2 : Nat) : Int) := by
  unfold bitAt
  have e : ((n : Int) / 2 ^ k) % 2 = ((n / 2 ^ k % 2 : Nat) : Int) := by norm_cast
  rw [e]
  have h2 : n / 2 ^ k % 2 < 2 := Nat.mod_lt _ (by decide)
  by_cases h : n / 2 ^ k % 2 = 1
  · rw [h]; rfl
  · have : n / 2 ^ k % 2 = 0 := by omega
    rw [this]; rfl
set_option maxHeartbeats 2000000 in
theorem bitAtR_any (n k : Nat) (hn : n ≤ 1000000) (hk : k ≤ 1000) (w : World) : Calls Try.prog 51 #[.int .i64 (n : Int), .int .i64 (k : Int)] w (Val (.int .i64 ((bitAt (n : Int) k).toNat : Int)) w) := by
  rw [bitAt_nat]
  have HB := Lib.hid hn
  go_enter Try.func51, Try.ntmps51
  go_wp2
  go_loopw [0, 5] (fun m i W => ∃ j : Nat, j ≤ k ∧ i = .int .i64 j ∧ m = .int .i64 ((n / 2 ^ j : Nat) : Int) ∧ w.grownBy W none) (fun _ i _ => k - (intOf i).toNat)
  case atStart => exact ⟨0, Nat.zero_le _, rfl, by simp, grown_refl _ _⟩
  case round =>
    obtain ⟨j, hj, rfl, rfl, hg⟩ := hrel
    have HG := Lib.hid hg
    clear hg
    by_cases hlt : j < k
    · have hd : decide ((j : Int) < (k : Int)) = true := by simp; omega
      have hq := quo2 (n / 2 ^ j)
      rw [div_pow_next] at hq
      have hle : n / 2 ^ (j + 1) ≤ 1000000 := Nat.le_trans (Nat.div_le_self _ _) HB.out
      have hle2 : n / 2 ^ j ≤ 1000000 := Nat.le_trans (Nat.div_le_self _ _) HB.out
      have HQ := Lib.hid (show n / 2 ^ (j + 1) = n / 2 ^ (j + 1) ∧ True from ⟨rfl, trivial⟩)
      obtain ⟨q, hqq⟩ : ∃ q, n / 2 ^ (j + 1) = q := ⟨_, rfl⟩
      have HQQ := Lib.hid hqq
      rw [hqq] at hq hle
      generalize n / 2 ^ j = p at *
      have hw : IntKind.i64.wrap (q : Int) = (q : Int) := by rw [IntKind.wrap_i64]; omega
      clear hqq HQ
      go_wp2
      go_roundw
      case rel => exact ⟨j + 1, by omega, by go_num, by rw [HQQ.out], HG.out⟩
      case measure => simp only [intOf]; omega
    · obtain rfl : j = k := by omega
      have hd : decide ((j : Int) < (j : Int)) = false := by simp
      have hq := rem2 (n / 2 ^ j)
      generalize n / 2 ^ j = p at *
      go_wp2
      go_ret
      exact ⟨rfl, HG.out⟩
/-- A state as a value. -/
def sV (v : Value) (S : Cst) (gb : Nat) : Value := .agg #[v, .int .i64 (S.low : Int), .int .i64 (S.width : Int), .map (some gb)]
def sC (v : Value) (S : Cst) (gb : Nat) : List Value := [v, .int .i64 (S.low : Int), .int .i64 (S.width : Int), .map (some gb)]
def SOut (v0 : Value) (O : List UInt8) (gb n : Nat) (M : Int → Option Int) (S : Cst) (w : World) (e : Ending) (w' : World) : Prop :=
  ∃ v, e = .returned (sV v S gb) ∧ Rd w' v (bytesV S.out) ∧ Mi w' gb n M ∧ w.grownBy w' (some gb) ∧ (S.out ≠ [] → ∀ k, v.ownBlock = some k → (O ≠ [] ∧ v0.ownBlock = some k) ∨ w.heap.size ≤ k)
/-- What reads as bytes lies in no map. -/
theorem Rd.keepM {W W' : World} {gb n : Nat} {M : Int → Option Int} {v : Value} {l : List UInt8} (h : Rd W v (bytesV l)) (hm : Mi W gb n M) (hg : W.grownBy W' (some gb)) : Rd W' v (bytesV l) := by
  refine h.keepE (fun he b hb hlt => hg.block b hlt (fun e => ?_))
  cases e
  obtain ⟨A, c, rfl, h1, h2, h3⟩ := h
  obtain ⟨ad, rfl, hc⟩ := h3 he
  have hb2 : ad.block = gb := by simpa [Value.ownBlock] using hb
  obtain ⟨D, ⟨es, cl, hblk, _⟩, _⟩ := hm
  cases l with
  | nil => exact he rfl
  | cons x l =>
    have h0 := hc 0 _ rfl
    unfold World.cell? at h0
    rw [add_block, hb2, hblk] at h0
    cases h0
section
variable {o : Oper} {a : Act} {w : World}
theorem st_fieldS1 {x : Operand} {g : Nat} (h : o.op = .fieldAddr 96 x 1) (hx : Is (.pointer (some ⟨g, 0, none⟩)) (a.eval x) w) : Runs (Is (.pointer (some ⟨g, 3, none⟩))) o a w := by
  have hx' : a.eval x = .pointer (some ⟨g, 0, none⟩) := hx
  refine ⟨_, ?_, rfl⟩
  simp only [execOp, h, hx']
  kernel_rfl
end
set_option maxHeartbeats 8000000 in
theorem bitR_any (v : Value) (S : Cst) (gb n : Nat) (M : Int → Option Int) (kk : Int) (c : Nat) (b : Bool) (w : World) (hr : Rd w v (bytesV S.out)) (hm : Mi w gb n M) (hat : (M kk).getD 1024 = (c : Int)) (hf : Fits64 kk) (hs : Okc S) (hc : Okn c) (hl : S.out.length ≤ 100000) (hn : n ≤ 1000000) :
    Calls Try.prog 49 #[sV v S gb, .int .i64 kk, .int .i64 (b.toNat : Int)] w (SOut v S.out gb (n + 1) (fun y => if y = kk then some ((saw c b : Nat) : Int) else M y) (putS S (S.width / 2048 * c) b) w) := by
  obtain ⟨gs, hgs⟩ : ∃ g, w.heap.size = g := ⟨_, rfl⟩
  obtain ⟨W0, hW0⟩ : ∃ W, (w.alloc (.cells #[v, .int .i64 (S.low : Int), .int .i64 (S.width : Int), .map (some gb)] 96)).alloc (.cells #[.slice none 0 0, .int .i64 0, .int .i64 0, .map none] 96) = W := ⟨_, rfl⟩
  have R0 := show Row W0 gs 96 (sC v S gb) by rw [← hW0]; exact (Row.newAt w _ (sC v S gb) hgs).alloc _
  have Z0 := show Row W0 (gs + 1) 96 [.slice none 0 0, .int .i64 0, .int .i64 0, .map none] by rw [← hW0]; exact Row.newAt _ _ [.slice none 0 0, .int .i64 0, .int .i64 0, .map none] (by simp [hgs])
  have hG0 : w.grownBy W0 none := by rw [← hW0]; exact grown_alloc (grown_alloc (grown_refl _ _) _) _
  have HM0 := Lib.hid (hm.grown0 hG0)
  have hlk := HM0.out.look kk hf
  have c3 := R0.cell (j := 3) rfl
  have HR0 := Lib.hid R0
  have HZ0 := Lib.hid Z0
  have HG0 := Lib.hid hG0
  have HG00 := Lib.hid hG0
  have HC := Lib.hid hc
  have HF := Lib.hid hf
  have HGB := Lib.hid (show gb < gs by rw [← hgs]; exact hm.lt)
  have HGS := Lib.hid hgs
  have HN := Lib.hid hn
  have HSW := Lib.hid (saw_ok hc b)
  have HBT := Lib.hid (rbit_any v S c b W0 (hr.grown0 hG0) hs hc hl)
  have HRV := Lib.hid hr
  obtain ⟨A, kv, rfl⟩ := hr.form
  rw [bytesV_len] at *
  obtain ⟨is, z, his, hz, hcz⟩ : ∃ (is : Bool) (z : Int), (M kk).isSome = is ∧ (M kk).getD 0 = z ∧ (if is then z else 1024) = (c : Int) := by
    cases hM : M kk with
    | none => exact ⟨false, 0, rfl, rfl, by rw [hM] at hat; simpa using hat⟩
    | some z => exact ⟨true, z, rfl, rfl, by rw [hM] at hat; simpa using hat⟩
  rw [his, hz] at hlk
  clear R0 Z0 hG0 hm hat hf hs hc hl hn his hz hr
  generalize putS S (S.width / 2048 * c) b = S2 at *
  unfold sC at HR0 c3
  go_enter Try.func49, Try.ntmps49
  unfold sV
  cases is with
  | false =>
    obtain rfl : c = 1024 := by simp only [Bool.false_eq_true, ↓reduceIte] at hcz; omega
    clear hcz
    go_wp2_with (refine wpList_load_part _ rfl _ 52 rfl gs 0 96 _ [.slice A S.out.length kv, .int .i64 (S.low : Int), .int .i64 (S.width : Int)] _ rfl HR0.out (fun j u hu => by rcases j with _ | _ | _ | j <;> (first | (simp at hu; done) | simpa using hu)) Try.underlying52 rfl (by kernel_rfl) ?_)
    refine HBT.out.mono ?_
    rintro e w2 ⟨v2, rfl, hr2, hg2, hs2⟩
    obtain ⟨A2, k2, rfl⟩ := hr2.form
    have HRD := Lib.hid hr2
    have HSR := Lib.hid hs2
    have HR2 := Lib.hid (HR0.out.grown0 hg2)
    have HZ2 := Lib.hid (HZ0.out.grown0 hg2)
    have HM2 := Lib.hid (HM0.out.grown0 hg2)
    have HG2 := Lib.hid (HG0.out.trans hg2)
    rw [bytesV_len] at *
    clear hr2 hg2 hs2 HBT HR0 HZ0 HM0 HG0 hlk c3 hW0
    unfold cV
    go_wp2_with (refine wpList_store_part _ rfl rfl _ _ 52 rfl gs 0 96 _ [.slice A2 S2.out.length k2, .int .i64 (S2.low : Int), .int .i64 (S2.width : Int)] rfl rfl HR2.out (by simp) (by simp [Value.oneCell']) (by kernel_rfl) ?_; intro w3 hr3 hg3)
    have HR3 := Lib.hid (show Row w3 gs 96 [.slice A2 S2.out.length k2, .int .i64 (S2.low : Int), .int .i64 (S2.width : Int), .map (some gb)] from hr3)
    have HRD3 := Lib.hid (HRD.out.keepT HR2.out (by simp) hg3)
    have HZ3 := Lib.hid (HZ2.out.grown hg3 (fun e => by have := Option.some.inj e; omega))
    have HM3 := Lib.hid (HM2.out.kept hg3 (fun e => by have h1 := Option.some.inj e; have := HGB.out; omega))
    have HG3 := Lib.hid (grown_own HG2.out hg3 (by have := HGS.out; omega))
    clear hr3 hg3 HR2 HZ2 HM2 HG2 HRD
    refine wp_region_walk3 6 [] dis_nil (by kernel_rfl) (by kernel_rfl) (by kernel_rfl) ?_
    simp only [List.take_succ_cons, List.take_zero, List.drop_succ_cons, List.drop_zero]
    refine Walk.val (G := Is (.pointer (some ⟨gs, 3, none⟩))) (stays_is _ _) rfl rfl (fun a w hm hd => ⟨wanted_plain rfl, st_fieldS1 rfl (by rw [hm.outer 3 (by kernel_rfl)]; rfl)⟩) ?_
    refine Walk.val (G := Is (.map (some gb))) (stays_is _ _) rfl rfl (fun a w hm hd => ⟨wanted_plain rfl, st_cell rfl (fun _ => by kernel_rfl) (hd.at_ 0 rfl rfl rfl rfl) ((HR3.out.grown0 (GrownX.none2 hm.grow)).cell (j := 3) rfl)⟩) ?_
    refine Walk.val (G := Is (.int .i64 kk)) (stays_is _ _) rfl rfl (fun a w hm hd => ⟨wanted_plain rfl, st_move rfl (by rw [hm.outer 1 (by kernel_rfl)]; rfl)⟩) ?_
    refine Walk.val (G := Is (.int .i64 ((1024 : Nat) : Int))) (stays_is _ _) rfl rfl (fun a w hm hd => ⟨wanted_plain rfl, st_move rfl (by rw [hm.outer 7 (by kernel_rfl)]; rfl)⟩) ?_
    refine Walk.val (G := Is (.int .i64 (b.toNat : Int))) (stays_is _ _) rfl rfl (fun a w hm hd => ⟨wanted_plain rfl, st_move rfl (by rw [hm.outer 2 (by kernel_rfl)]; rfl)⟩) ?_
    refine Walk.call (G := Is (.int .i64 ((saw 1024 b : Nat) : Int))) (stays_is _ _) rfl 27 rfl (fun a w hm ha hd => ⟨wanted_plain rfl, _, ex_call2 Try.func27 (by kernel_rfl) (by kernel_rfl) rfl, by rw [show a.eval (.tmp 27) = _ from (hd.at_ 3 rfl rfl rfl rfl), show a.eval (.tmp 28) = _ from (hd.at_ 4 rfl rfl rfl rfl)]; exact (rsaw_any 1024 b HC.out w).mono (fun e w2 ⟨he, hw⟩ => ⟨_, he, by rw [hw]; exact grown_refl _ _, rfl⟩)⟩) ?_
    intro a9 V9 hm9 hall
    have f25 : Is (.map (some gb)) (a9.eval (.tmp 25)) V9 := hall 1 _ _ rfl rfl
    have f26 : Is (.int .i64 kk) (a9.eval (.tmp 26)) V9 := hall 2 _ _ rfl rfl
    have f29 : Is (.int .i64 ((saw 1024 b : Nat) : Int)) (a9.eval (.tmp 29)) V9 := hall 5 _ _ rfl rfl
    have hfr := hm9.frame
    simp only [List.take_succ_cons, List.take_zero, List.filterMap_cons, List.filterMap_nil, List.foldl_cons, List.foldl_nil] at hfr
    have hgV9 := GrownX.none2 hm9.grow
    have f25 : a9.eval (.tmp 25) = _ := f25
    rw [f25] at hfr
    have f26 : a9.eval (.tmp 26) = _ := f26
    rw [f26] at hfr
    have f29 : a9.eval (.tmp 29) = _ := f29
    rw [f29] at hfr
    generalize a9.eval (.tmp 24) = e24 at hfr
    generalize a9.eval (.tmp 27) = e27 at hfr
    generalize a9.eval (.tmp 28) = e28 at hfr
    clear hall hm9
    obtain ⟨w4, hst, hm4, hg4⟩ := (HM3.out.grown0 hgV9).store (by have := HN.out; unfold maxLen; omega) kk HF.out ((saw 1024 b : Nat) : Int) (by have := HSW.out; unfold Okn at this; exact ⟨by omega, by omega⟩)
    have HM4 := Lib.hid hm4
    have HR4 := Lib.hid ((HR3.out.grown0 hgV9).grown hg4 (fun e => by have h1 := Option.some.inj e; have := HGB.out; omega))
    have HZ4 := Lib.hid ((HZ3.out.grown0 hgV9).grown hg4 (fun e => by have h1 := Option.some.inj e; have := HGB.out; omega))
    have HRD4 := Lib.hid ((HRD3.out.grown0 hgV9).keepM (HM3.out.grown0 hgV9) hg4)
    have HG4 := Lib.hid (show w.grownBy w4 (some gb) from grown_trans2 (show w.grownBy V9 (some gb) from (let h := HG3.out.trans hgV9; ⟨h.os, h.tape, h.output, h.size, fun k hk _ => h.block k hk (by simp)⟩)) hg4)
    clear hm4 hg4 hgV9 HM3 HR3 HZ3 HRD3 HG3
    unfold wpList
    rw [hfr]
    clear hfr
    go_simp
    unfold wpList
    go_simp
    rename ∀ (a : Act) (w : World), Code.wp _ _ _ a w → _ => hK
    first
      | refine .inl (hK _ _ ?_)
      | refine hK _ _ ?_
    go_wp2_with (first
      | refine wpList_load_row _ rfl _ 96 rfl gs 96 _ _ rfl HR4.out Try.underlying96 rfl (by kernel_rfl) ?_
      | (refine wpList_store_row _ rfl rfl _ _ 96 rfl (gs + 1) 96 _ [.slice A2 S2.out.length k2, .int .i64 (S2.low : Int), .int .i64 (S2.width : Int), .map (some gb)] rfl rfl HZ4.out rfl (by simp [Value.oneCell']) (by kernel_rfl) ?_; intro w5 hr5 hg5))
    refine bodyPost_ret (v := sV (.slice A2 S2.out.length k2) S2 gb) (results_row Try.results49 (gs + 1) 96 _ _ rfl hr5 Try.underlying96 rfl (by kernel_rfl)) rfl ?_
    refine ⟨_, rfl, HRD4.out.keepT HZ4.out (by simp) hg5, HM4.out.kept hg5 (fun e => by have h1 := Option.some.inj e; have := HGB.out; omega), ⟨hg5.os.trans HG4.out.os, hg5.tape.trans HG4.out.tape, hg5.output.trans HG4.out.output, Nat.le_trans HG4.out.size hg5.size, fun k hk hne => (hg5.block k (Nat.lt_of_lt_of_le hk HG4.out.size) (fun e => by have h1 := Option.some.inj e; have := HGS.out; omega)).trans (HG4.out.block k hk hne)⟩, fun he k hk => (HSR.out he k hk).imp_right (fun h => Nat.le_trans HG00.out.size h)⟩
  
  | true =>
    obtain rfl : z = (c : Int) := by simpa using hcz
    clear hcz
    go_wp2_with (refine wpList_load_part _ rfl _ 52 rfl gs 0 96 _ [.slice A S.out.length kv, .int .i64 (S.low : Int), .int .i64 (S.width : Int)] _ rfl HR0.out (fun j u hu => by rcases j with _ | _ | _ | j <;> (first | (simp at hu; done) | simpa using hu)) Try.underlying52 rfl (by kernel_rfl) ?_)
    refine HBT.out.mono ?_
    rintro e w2 ⟨v2, rfl, hr2, hg2, hs2⟩
    obtain ⟨A2, k2, rfl⟩ := hr2.form
    have HRD := Lib.hid hr2
    have HSR := Lib.hid hs2
    have HR2 := Lib.hid (HR0.out.grown0 hg2)
    have HZ2 := Lib.hid (HZ0.out.grown0 hg2)
    have HM2 := Lib.hid (HM0.out.grown0 hg2)
    have HG2 := Lib.hid (HG0.out.trans hg2)
    rw [bytesV_len] at *
    clear hr2 hg2 hs2 HBT HR0 HZ0 HM0 HG0 hlk c3 hW0
    unfold cV
    go_wp2_with (refine wpList_store_part _ rfl rfl _ _ 52 rfl gs 0 96 _ [.slice A2 S2.out.length k2, .int .i64 (S2.low : Int), .int .i64 (S2.width : Int)] rfl rfl HR2.out (by simp) (by simp [Value.oneCell']) (by kernel_rfl) ?_; intro w3 hr3 hg3)
    have HR3 := Lib.hid (show Row w3 gs 96 [.slice A2 S2.out.length k2, .int .i64 (S2.low : Int), .int .i64 (S2.width : Int), .map (some gb)] from hr3)
    have HRD3 := Lib.hid (HRD.out.keepT HR2.out (by simp) hg3)
    have HZ3 := Lib.hid (HZ2.out.grown hg3 (fun e => by have := Option.some.inj e; omega))
    have HM3 := Lib.hid (HM2.out.kept hg3 (fun e => by have h1 := Option.some.inj e; have := HGB.out; omega))
    have HG3 := Lib.hid (grown_own HG2.out hg3 (by have := HGS.out; omega))
    clear hr3 hg3 HR2 HZ2 HM2 HG2 HRD
    refine wp_region_walk3 6 [] dis_nil (by kernel_rfl) (by kernel_rfl) (by kernel_rfl) ?_
    simp only [List.take_succ_cons, List.take_zero, List.drop_succ_cons, List.drop_zero]
    refine Walk.val (G := Is (.pointer (some ⟨gs, 3, none⟩))) (stays_is _ _) rfl rfl (fun a w hm hd => ⟨wanted_plain rfl, st_fieldS1 rfl (by rw [hm.outer 3 (by kernel_rfl)]; rfl)⟩) ?_
    refine Walk.val (G := Is (.map (some gb))) (stays_is _ _) rfl rfl (fun a w hm hd => ⟨wanted_plain rfl, st_cell rfl (fun _ => by kernel_rfl) (hd.at_ 0 rfl rfl rfl rfl) ((HR3.out.grown0 (GrownX.none2 hm.grow)).cell (j := 3) rfl)⟩) ?_
    refine Walk.val (G := Is (.int .i64 kk)) (stays_is _ _) rfl rfl (fun a w hm hd => ⟨wanted_plain rfl, st_move rfl (by rw [hm.outer 1 (by kernel_rfl)]; rfl)⟩) ?_
    refine Walk.val (G := Is (.int .i64 (c : Int))) (stays_is _ _) rfl rfl (fun a w hm hd => ⟨wanted_plain rfl, st_move rfl (by rw [hm.outer 7 (by kernel_rfl)]; rfl)⟩) ?_
    refine Walk.val (G := Is (.int .i64 (b.toNat : Int))) (stays_is _ _) rfl rfl (fun a w hm hd => ⟨wanted_plain rfl, st_move rfl (by rw [hm.outer 2 (by kernel_rfl)]; rfl)⟩) ?_
    refine Walk.call (G := Is (.int .i64 ((saw c b : Nat) : Int))) (stays_is _ _) rfl 27 rfl (fun a w hm ha hd => ⟨wanted_plain rfl, _, ex_call2 Try.func27 (by kernel_rfl) (by kernel_rfl) rfl, by rw [show a.eval (.tmp 27) = _ from (hd.at_ 3 rfl rfl rfl rfl), show a.eval (.tmp 28) = _ from (hd.at_ 4 rfl rfl rfl rfl)]; exact (rsaw_any c b HC.out w).mono (fun e w2 ⟨he, hw⟩ => ⟨_, he, by rw [hw]; exact grown_refl _ _, rfl⟩)⟩) ?_
    intro a9 V9 hm9 hall
    have f25 : Is (.map (some gb)) (a9.eval (.tmp 25)) V9 := hall 1 _ _ rfl rfl
    have f26 : Is (.int .i64 kk) (a9.eval (.tmp 26)) V9 := hall 2 _ _ rfl rfl
    have f29 : Is (.int .i64 ((saw c b : Nat) : Int)) (a9.eval (.tmp 29)) V9 := hall 5 _ _ rfl rfl
    have hfr := hm9.frame
    simp only [List.take_succ_cons, List.take_zero, List.filterMap_cons, List.filterMap_nil, List.foldl_cons, List.foldl_nil] at hfr
    have hgV9 := GrownX.none2 hm9.grow
    have f25 : a9.eval (.tmp 25) = _ := f25
    rw [f25] at hfr
    have f26 : a9.eval (.tmp 26) = _ := f26
    rw [f26] at hfr
    have f29 : a9.eval (.tmp 29) = _ := f29
    rw [f29] at hfr
    generalize a9.eval (.tmp 24) = e24 at hfr
    generalize a9.eval (.tmp 27) = e27 at hfr
    generalize a9.eval (.tmp 28) = e28 at hfr
    clear hall hm9
    obtain ⟨w4, hst, hm4, hg4⟩ := (HM3.out.grown0 hgV9).store (by have := HN.out; unfold maxLen; omega) kk HF.out ((saw c b : Nat) : Int) (by have := HSW.out; unfold Okn at this; exact ⟨by omega, by omega⟩)
    have HM4 := Lib.hid hm4
    have HR4 := Lib.hid ((HR3.out.grown0 hgV9).grown hg4 (fun e => by have h1 := Option.some.inj e; have := HGB.out; omega))
    have HZ4 := Lib.hid ((HZ3.out.grown0 hgV9).grown hg4 (fun e => by have h1 := Option.some.inj e; have := HGB.out; omega))
    have HRD4 := Lib.hid ((HRD3.out.grown0 hgV9).keepM (HM3.out.grown0 hgV9) hg4)
    have HG4 := Lib.hid (show w.grownBy w4 (some gb) from grown_trans2 (show w.grownBy V9 (some gb) from (let h := HG3.out.trans hgV9; ⟨h.os, h.tape, h.output, h.size, fun k hk _ => h.block k hk (by simp)⟩)) hg4)
    clear hm4 hg4 hgV9 HM3 HR3 HZ3 HRD3 HG3
    unfold wpList
    rw [hfr]
    clear hfr
    go_simp
    unfold wpList
    go_simp
    rename ∀ (a : Act) (w : World), Code.wp _ _ _ a w → _ => hK
    first
      | refine .inl (hK _ _ ?_)
      | refine hK _ _ ?_
    go_wp2_with (first
      | refine wpList_load_row _ rfl _ 96 rfl gs 96 _ _ rfl HR4.out Try.underlying96 rfl (by kernel_rfl) ?_
      | (refine wpList_store_row _ rfl rfl _ _ 96 rfl (gs + 1) 96 _ [.slice A2 S2.out.length k2, .int .i64 (S2.low : Int), .int .i64 (S2.width : Int), .map (some gb)] rfl rfl HZ4.out rfl (by simp [Value.oneCell']) (by kernel_rfl) ?_; intro w5 hr5 hg5))
    refine bodyPost_ret (v := sV (.slice A2 S2.out.length k2) S2 gb) (results_row Try.results49 (gs + 1) 96 _ _ rfl hr5 Try.underlying96 rfl (by kernel_rfl)) rfl ?_
    refine ⟨_, rfl, HRD4.out.keepT HZ4.out (by simp) hg5, HM4.out.kept hg5 (fun e => by have h1 := Option.some.inj e; have := HGB.out; omega), ⟨hg5.os.trans HG4.out.os, hg5.tape.trans HG4.out.tape, hg5.output.trans HG4.out.output, Nat.le_trans HG4.out.size hg5.size, fun k hk hne => (hg5.block k (Nat.lt_of_lt_of_le hk HG4.out.size) (fun e => by have h1 := Option.some.inj e; have := HGS.out; omega)).trans (HG4.out.block k hk hne)⟩, fun he k hk => (HSR.out he k hk).imp_right (fun h => Nat.le_trans HG00.out.size h)⟩
end Go.Proofs.Ytibofgokdjbomaa
