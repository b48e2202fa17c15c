/-
  Several texts in one file.
-/
import Derived.Test.YtibofgokdjbomaaMapInt
import Derived.Test.YtibofgokdjbomaaMRco
import Derived.Test.YtibofgokdjbomaaIntOps
import Derived.Test.YtibofgokdjbomaaPkM
import Derived.Test.YtibofgokdjbomaaMPkA
import Derived.Test.YtibofgokdjbomaaTokPut
/-
  The document's own words of layer 11 over this program: a bit of a number; a bit of a chance that a map keeps.
-/
namespace Go.Proofs.Ytibofgokdjbomaa
set_option maxRecDepth 1000000
open Go.RowKit

theorem quo2 (n : Nat) : ((n : Int)).tdiv 2 = ((n / 2 : Nat) : Int) := by rw [Int.tdiv_eq_ediv_of_nonneg (by omega)]; simp
theorem rem2 (n : Nat) : ((n : Int)).tmod 2 = ((n % 2 : Nat) : Int) := by rw [Int.tmod_eq_emod_of_nonneg (by omega)]; simp
theorem div_pow_next (n j : Nat) : n / 2 ^ j / 2 = n / 2 ^ (j + 1) := by rw [Nat.pow_succ, Nat.div_div_eq_div_mul]
theorem bitAt_nat (n k : Nat) : ((bitAt (n : Int) k).toNat : Int) = ((n / 2 ^ k % 2 : Nat) : Int) := by
  unfold bitAt
  have e : ((n : Int) / 2 ^ k) % 2 = ((n / 2 ^ k % 2 : Nat) : Int) := by norm_cast
  rw [e]
  have h2 : n / 2 ^ k % 2 < 2 := Nat.mod_lt _ (by decide)
  by_cases h : n / 2 ^ k % 2 = 1
  · rw [h]; rfl
  · have : n / 2 ^ k % 2 = 0 := by omega
    rw [this]; rfl
set_option maxHeartbeats 2000000 in
theorem bitAtR_any (n k : Nat) (hn : n ≤ 1000000) (hk : k ≤ 1000) (w : World) : Calls Try.prog 51 #[.int .i64 (n : Int), .int .i64 (k : Int)] w (Val (.int .i64 ((bitAt (n : Int) k).toNat : Int)) w) := by
  rw [bitAt_nat]
  have HB := Lib.hid hn
  go_enter Try.func51, Try.ntmps51
  go_wp2
  go_loopw [0, 5] (fun m i W => ∃ j : Nat, j ≤ k ∧ i = .int .i64 j ∧ m = .int .i64 ((n / 2 ^ j : Nat) : Int) ∧ w.grownBy W none) (fun _ i _ => k - (intOf i).toNat)
  case atStart => exact ⟨0, Nat.zero_le _, rfl, by simp, grown_refl _ _⟩
  case round =>
    obtain ⟨j, hj, rfl, rfl, hg⟩ := hrel
    have HG := Lib.hid hg
    clear hg
    by_cases hlt : j < k
    · have hd : decide ((j : Int) < (k : Int)) = true := by simp; omega
      have hq := quo2 (n / 2 ^ j)
      rw [div_pow_next] at hq
      have hle : n / 2 ^ (j + 1) ≤ 1000000 := Nat.le_trans (Nat.div_le_self _ _) HB.out
      have hle2 : n / 2 ^ j ≤ 1000000 := Nat.le_trans (Nat.div_le_self _ _) HB.out
      have HQ := Lib.hid (show n / 2 ^ (j + 1) = n / 2 ^ (j + 1) ∧ True from ⟨rfl, trivial⟩)
      obtain ⟨q, hqq⟩ : ∃ q, n / 2 ^ (j + 1) = q := ⟨_, rfl⟩
      have HQQ := Lib.hid hqq
      rw [hqq] at hq hle
      generalize n / 2 ^ j = p at *
      have hw : IntKind.i64.wrap (q : Int) = (q : Int) := by rw [IntKind.wrap_i64]; omega
      clear hqq HQ
      go_wp2
      go_roundw
      case rel => exact ⟨j + 1, by omega, by go_num, by rw [HQQ.out], HG.out⟩
      case measure => simp only [intOf]; omega
    · obtain rfl : j = k := by omega
      have hd : decide ((j : Int) < (j : Int)) = false := by simp
      have hq := rem2 (n / 2 ^ j)
      generalize n / 2 ^ j = p at *
      go_wp2
      go_ret
      exact ⟨rfl, HG.out⟩
/-- A state as a value. -/
def sV (v : Value) (S : Cst) (gb : Nat) : Value := .agg #[v, .int .i64 (S.low : Int), .int .i64 (S.width : Int), .map (some gb)]
def sC (v : Value) (S : Cst) (gb : Nat) : List Value := [v, .int .i64 (S.low : Int), .int .i64 (S.width : Int), .map (some gb)]
def SOut (v0 : Value) (O : List UInt8) (gb n : Nat) (M : Int → Option Int) (S : Cst) (w : World) (e : Ending) (w' : World) : Prop :=
  ∃ v, e = .returned (sV v S gb) ∧ Rd w' v (bytesV S.out) ∧ Mi w' gb n M ∧ w.grownBy w' (some gb) ∧ (S.out ≠ [] → ∀ k, v.ownBlock = some k → (O ≠ [] ∧ v0.ownBlock = some k) ∨ w.heap.size ≤ k)
/-- What reads as bytes lies in no map. -/
theorem Rd.keepM {W W' : World} {gb n : Nat} {M : Int → Option Int} {v : Value} {l : List UInt8} (h : Rd W v (bytesV l)) (hm : Mi W gb n M) (hg : W.grownBy W' (some gb)) : Rd W' v (bytesV l) := by
  refine h.keepE (fun he b hb hlt => hg.block b hlt (fun e => ?_))
  cases e
  obtain ⟨A, c, rfl, h1, h2, h3⟩ := h
  obtain ⟨ad, rfl, hc⟩ := h3 he
  have hb2 : ad.block = gb := by simpa [Value.ownBlock] using hb
  obtain ⟨D, ⟨es, cl, hblk, _⟩, _⟩ := hm
  cases l with
  | nil => exact he rfl
  | cons x l =>
    have h0 := hc 0 _ rfl
    unfold World.cell? at h0
    rw [add_block, hb2, hblk] at h0
    cases h0
section
variable {o : Oper} {a : Act} {w : World}
theorem st_fieldS1 {x : Operand} {g : Nat} (h : o.op = .fieldAddr 96 x 1) (hx : Is (.pointer (some ⟨g, 0, none⟩)) (a.eval x) w) : Runs (Is (.pointer (some ⟨g, 3, none⟩))) o a w := by
  have hx' : a.eval x = .pointer (some ⟨g, 0, none⟩) := hx
  refine ⟨_, ?_, rfl⟩
  simp only [execOp, h, hx']
  kernel_rfl
end
set_option maxHeartbeats 8000000 in
theorem bitR_any (v : Value) (S : Cst) (gb n : Nat) (M : Int → Option Int) (kk : Int) (c : Nat) (b : Bool) (w : World) (hr : Rd w v (bytesV S.out)) (hm : Mi w gb n M) (hat : (M kk).getD 1024 = (c : Int)) (hf : Fits64 kk) (hs : Okc S) (hc : Okn c) (hl : S.out.length ≤ 100000) (hn : n ≤ 1000000) :
    Calls Try.prog 49 #[sV v S gb, .int .i64 kk, .int .i64 (b.toNat : Int)] w (SOut v S.out gb (n + 1) (fun y => if y = kk then some ((saw c b : Nat) : Int) else M y) (putS S (S.width / 2048 * c) b) w) := by
  obtain ⟨gs, hgs⟩ : ∃ g, w.heap.size = g := ⟨_, rfl⟩
  obtain ⟨W0, hW0⟩ : ∃ W, (w.alloc (.cells #[v, .int .i64 (S.low : Int), .int .i64 (S.width : Int), .map (some gb)] 96)).alloc (.cells #[.slice none 0 0, .int .i64 0, .int .i64 0, .map none] 96) = W := ⟨_, rfl⟩
  have R0 := show Row W0 gs 96 (sC v S gb) by rw [← hW0]; exact (Row.newAt w _ (sC v S gb) hgs).alloc _
  have Z0 := show Row W0 (gs + 1) 96 [.slice none 0 0, .int .i64 0, .int .i64 0, .map none] by rw [← hW0]; exact Row.newAt _ _ [.slice none 0 0, .int .i64 0, .int .i64 0, .map none] (by simp [hgs])
  have hG0 : w.grownBy W0 none := by rw [← hW0]; exact grown_alloc (grown_alloc (grown_refl _ _) _) _
  have HM0 := Lib.hid (hm.grown0 hG0)
  have hlk := HM0.out.look kk hf
  have c3 := R0.cell (j := 3) rfl
  have HR0 := Lib.hid R0
  have HZ0 := Lib.hid Z0
  have HG0 := Lib.hid hG0
  have HG00 := Lib.hid hG0
  have HC := Lib.hid hc
  have HF := Lib.hid hf
  have HGB := Lib.hid (show gb < gs by rw [← hgs]; exact hm.lt)
  have HGS := Lib.hid hgs
  have HN := Lib.hid hn
  have HSW := Lib.hid (saw_ok hc b)
  have HBT := Lib.hid (rbit_any v S c b W0 (hr.grown0 hG0) hs hc hl)
  have HRV := Lib.hid hr
  obtain ⟨A, kv, rfl⟩ := hr.form
  rw [bytesV_len] at *
  obtain ⟨is, z, his, hz, hcz⟩ : ∃ (is : Bool) (z : Int), (M kk).isSome = is ∧ (M kk).getD 0 = z ∧ (if is then z else 1024) = (c : Int) := by
    cases hM : M kk with
    | none => exact ⟨false, 0, rfl, rfl, by rw [hM] at hat; simpa using hat⟩
    | some z => exact ⟨true, z, rfl, rfl, by rw [hM] at hat; simpa using hat⟩
  rw [his, hz] at hlk
  clear R0 Z0 hG0 hm hat hf hs hc hl hn his hz hr
  generalize putS S (S.width / 2048 * c) b = S2 at *
  unfold sC at HR0 c3
  go_enter Try.func49, Try.ntmps49
  unfold sV
  cases is with
  | false =>
    obtain rfl : c = 1024 := by simp only [Bool.false_eq_true, ↓reduceIte] at hcz; omega
    clear hcz
    go_wp2_with (refine wpList_load_part _ rfl _ 52 rfl gs 0 96 _ [.slice A S.out.length kv, .int .i64 (S.low : Int), .int .i64 (S.width : Int)] _ rfl HR0.out (fun j u hu => by rcases j with _ | _ | _ | j <;> (first | (simp at hu; done) | simpa using hu)) Try.underlying52 rfl (by kernel_rfl) ?_)
    refine HBT.out.mono ?_
    rintro e w2 ⟨v2, rfl, hr2, hg2, hs2⟩
    obtain ⟨A2, k2, rfl⟩ := hr2.form
    have HRD := Lib.hid hr2
    have HSR := Lib.hid hs2
    have HR2 := Lib.hid (HR0.out.grown0 hg2)
    have HZ2 := Lib.hid (HZ0.out.grown0 hg2)
    have HM2 := Lib.hid (HM0.out.grown0 hg2)
    have HG2 := Lib.hid (HG0.out.trans hg2)
    rw [bytesV_len] at *
    clear hr2 hg2 hs2 HBT HR0 HZ0 HM0 HG0 hlk c3 hW0
    unfold cV
    go_wp2_with (refine wpList_store_part _ rfl rfl _ _ 52 rfl gs 0 96 _ [.slice A2 S2.out.length k2, .int .i64 (S2.low : Int), .int .i64 (S2.width : Int)] rfl rfl HR2.out (by simp) (by simp [Value.oneCell']) (by kernel_rfl) ?_; intro w3 hr3 hg3)
    have HR3 := Lib.hid (show Row w3 gs 96 [.slice A2 S2.out.length k2, .int .i64 (S2.low : Int), .int .i64 (S2.width : Int), .map (some gb)] from hr3)
    have HRD3 := Lib.hid (HRD.out.keepT HR2.out (by simp) hg3)
    have HZ3 := Lib.hid (HZ2.out.grown hg3 (fun e => by have := Option.some.inj e; omega))
    have HM3 := Lib.hid (HM2.out.kept hg3 (fun e => by have h1 := Option.some.inj e; have := HGB.out; omega))
    have HG3 := Lib.hid (grown_own HG2.out hg3 (by have := HGS.out; omega))
    clear hr3 hg3 HR2 HZ2 HM2 HG2 HRD
    refine wp_region_walk3 6 [] dis_nil (by kernel_rfl) (by kernel_rfl) (by kernel_rfl) ?_
    simp only [List.take_succ_cons, List.take_zero, List.drop_succ_cons, List.drop_zero]
    refine Walk.val (G := Is (.pointer (some ⟨gs, 3, none⟩))) (stays_is _ _) rfl rfl (fun a w hm hd => ⟨wanted_plain rfl, st_fieldS1 rfl (by rw [hm.outer 3 (by kernel_rfl)]; rfl)⟩) ?_
    refine Walk.val (G := Is (.map (some gb))) (stays_is _ _) rfl rfl (fun a w hm hd => ⟨wanted_plain rfl, st_cell rfl (fun _ => by kernel_rfl) (hd.at_ 0 rfl rfl rfl rfl) ((HR3.out.grown0 (GrownX.none2 hm.grow)).cell (j := 3) rfl)⟩) ?_
    refine Walk.val (G := Is (.int .i64 kk)) (stays_is _ _) rfl rfl (fun a w hm hd => ⟨wanted_plain rfl, st_move rfl (by rw [hm.outer 1 (by kernel_rfl)]; rfl)⟩) ?_
    refine Walk.val (G := Is (.int .i64 ((1024 : Nat) : Int))) (stays_is _ _) rfl rfl (fun a w hm hd => ⟨wanted_plain rfl, st_move rfl (by rw [hm.outer 7 (by kernel_rfl)]; rfl)⟩) ?_
    refine Walk.val (G := Is (.int .i64 (b.toNat : Int))) (stays_is _ _) rfl rfl (fun a w hm hd => ⟨wanted_plain rfl, st_move rfl (by rw [hm.outer 2 (by kernel_rfl)]; rfl)⟩) ?_
    refine Walk.call (G := Is (.int .i64 ((saw 1024 b : Nat) : Int))) (stays_is _ _) rfl 27 rfl (fun a w hm ha hd => ⟨wanted_plain rfl, _, ex_call2 Try.func27 (by kernel_rfl) (by kernel_rfl) rfl, by rw [show a.eval (.tmp 27) = _ from (hd.at_ 3 rfl rfl rfl rfl), show a.eval (.tmp 28) = _ from (hd.at_ 4 rfl rfl rfl rfl)]; exact (rsaw_any 1024 b HC.out w).mono (fun e w2 ⟨he, hw⟩ => ⟨_, he, by rw [hw]; exact grown_refl _ _, rfl⟩)⟩) ?_
    intro a9 V9 hm9 hall
    have f25 : Is (.map (some gb)) (a9.eval (.tmp 25)) V9 := hall 1 _ _ rfl rfl
    have f26 : Is (.int .i64 kk) (a9.eval (.tmp 26)) V9 := hall 2 _ _ rfl rfl
    have f29 : Is (.int .i64 ((saw 1024 b : Nat) : Int)) (a9.eval (.tmp 29)) V9 := hall 5 _ _ rfl rfl
    have hfr := hm9.frame
    simp only [List.take_succ_cons, List.take_zero, List.filterMap_cons, List.filterMap_nil, List.foldl_cons, List.foldl_nil] at hfr
    have hgV9 := GrownX.none2 hm9.grow
    have f25 : a9.eval (.tmp 25) = _ := f25
    rw [f25] at hfr
    have f26 : a9.eval (.tmp 26) = _ := f26
    rw [f26] at hfr
    have f29 : a9.eval (.tmp 29) = _ := f29
    rw [f29] at hfr
    generalize a9.eval (.tmp 24) = e24 at hfr
    generalize a9.eval (.tmp 27) = e27 at hfr
    generalize a9.eval (.tmp 28) = e28 at hfr
    clear hall hm9
    obtain ⟨w4, hst, hm4, hg4⟩ := (HM3.out.grown0 hgV9).store (by have := HN.out; unfold maxLen; omega) kk HF.out ((saw 1024 b : Nat) : Int) (by have := HSW.out; unfold Okn at this; exact ⟨by omega, by omega⟩)
    have HM4 := Lib.hid hm4
    have HR4 := Lib.hid ((HR3.out.grown0 hgV9).grown hg4 (fun e => by have h1 := Option.some.inj e; have := HGB.out; omega))
    have HZ4 := Lib.hid ((HZ3.out.grown0 hgV9).grown hg4 (fun e => by have h1 := Option.some.inj e; have := HGB.out; omega))
    have HRD4 := Lib.hid ((HRD3.out.grown0 hgV9).keepM (HM3.out.grown0 hgV9) hg4)
    have HG4 := Lib.hid (show w.grownBy w4 (some gb) from grown_trans2 (show w.grownBy V9 (some gb) from (let h := HG3.out.trans hgV9; ⟨h.os, h.tape, h.output, h.size, fun k hk _ => h.block k hk (by simp)⟩)) hg4)
    clear hm4 hg4 hgV9 HM3 HR3 HZ3 HRD3 HG3
    unfold wpList
    rw [hfr]
    clear hfr
    go_simp
    unfold wpList
    go_simp
    rename ∀ (a : Act) (w : World), Code.wp _ _ _ a w → _ => hK
    first
      | refine .inl (hK _ _ ?_)
      | refine hK _ _ ?_
    go_wp2_with (first
      | refine wpList_load_row _ rfl _ 96 rfl gs 96 _ _ rfl HR4.out Try.underlying96 rfl (by kernel_rfl) ?_
      | (refine wpList_store_row _ rfl rfl _ _ 96 rfl (gs + 1) 96 _ [.slice A2 S2.out.length k2, .int .i64 (S2.low : Int), .int .i64 (S2.width : Int), .map (some gb)] rfl rfl HZ4.out rfl (by simp [Value.oneCell']) (by kernel_rfl) ?_; intro w5 hr5 hg5))
    refine bodyPost_ret (v := sV (.slice A2 S2.out.length k2) S2 gb) (results_row Try.results49 (gs + 1) 96 _ _ rfl hr5 Try.underlying96 rfl (by kernel_rfl)) rfl ?_
    refine ⟨_, rfl, HRD4.out.keepT HZ4.out (by simp) hg5, HM4.out.kept hg5 (fun e => by have h1 := Option.some.inj e; have := HGB.out; omega), ⟨hg5.os.trans HG4.out.os, hg5.tape.trans HG4.out.tape, hg5.output.trans HG4.out.output, Nat.le_trans HG4.out.size hg5.size, fun k hk hne => (hg5.block k (Nat.lt_of_lt_of_le hk HG4.out.size) (fun e => by have h1 := Option.some.inj e; have := HGS.out; omega)).trans (HG4.out.block k hk hne)⟩, fun he k hk => (HSR.out he k hk).imp_right (fun h => Nat.le_trans HG00.out.size h)⟩
  
  | true =>
    obtain rfl : z = (c : Int) := by simpa using hcz
    clear hcz
    go_wp2_with (refine wpList_load_part _ rfl _ 52 rfl gs 0 96 _ [.slice A S.out.length kv, .int .i64 (S.low : Int), .int .i64 (S.width : Int)] _ rfl HR0.out (fun j u hu => by rcases j with _ | _ | _ | j <;> (first | (simp at hu; done) | simpa using hu)) Try.underlying52 rfl (by kernel_rfl) ?_)
    refine HBT.out.mono ?_
    rintro e w2 ⟨v2, rfl, hr2, hg2, hs2⟩
    obtain ⟨A2, k2, rfl⟩ := hr2.form
    have HRD := Lib.hid hr2
    have HSR := Lib.hid hs2
    have HR2 := Lib.hid (HR0.out.grown0 hg2)
    have HZ2 := Lib.hid (HZ0.out.grown0 hg2)
    have HM2 := Lib.hid (HM0.out.grown0 hg2)
    have HG2 := Lib.hid (HG0.out.trans hg2)
    rw [bytesV_len] at *
    clear hr2 hg2 hs2 HBT HR0 HZ0 HM0 HG0 hlk c3 hW0
    unfold cV
    go_wp2_with (refine wpList_store_part _ rfl rfl _ _ 52 rfl gs 0 96 _ [.slice A2 S2.out.length k2, .int .i64 (S2.low : Int), .int .i64 (S2.width : Int)] rfl rfl HR2.out (by simp) (by simp [Value.oneCell']) (by kernel_rfl) ?_; intro w3 hr3 hg3)
    have HR3 := Lib.hid (show Row w3 gs 96 [.slice A2 S2.out.length k2, .int .i64 (S2.low : Int), .int .i64 (S2.width : Int), .map (some gb)] from hr3)
    have HRD3 := Lib.hid (HRD.out.keepT HR2.out (by simp) hg3)
    have HZ3 := Lib.hid (HZ2.out.grown hg3 (fun e => by have := Option.some.inj e; omega))
    have HM3 := Lib.hid (HM2.out.kept hg3 (fun e => by have h1 := Option.some.inj e; have := HGB.out; omega))
    have HG3 := Lib.hid (grown_own HG2.out hg3 (by have := HGS.out; omega))
    clear hr3 hg3 HR2 HZ2 HM2 HG2 HRD
    refine wp_region_walk3 6 [] dis_nil (by kernel_rfl) (by kernel_rfl) (by kernel_rfl) ?_
    simp only [List.take_succ_cons, List.take_zero, List.drop_succ_cons, List.drop_zero]
    refine Walk.val (G := Is (.pointer (some ⟨gs, 3, none⟩))) (stays_is _ _) rfl rfl (fun a w hm hd => ⟨wanted_plain rfl, st_fieldS1 rfl (by rw [hm.outer 3 (by kernel_rfl)]; rfl)⟩) ?_
    refine Walk.val (G := Is (.map (some gb))) (stays_is _ _) rfl rfl (fun a w hm hd => ⟨wanted_plain rfl, st_cell rfl (fun _ => by kernel_rfl) (hd.at_ 0 rfl rfl rfl rfl) ((HR3.out.grown0 (GrownX.none2 hm.grow)).cell (j := 3) rfl)⟩) ?_
    refine Walk.val (G := Is (.int .i64 kk)) (stays_is _ _) rfl rfl (fun a w hm hd => ⟨wanted_plain rfl, st_move rfl (by rw [hm.outer 1 (by kernel_rfl)]; rfl)⟩) ?_
    refine Walk.val (G := Is (.int .i64 (c : Int))) (stays_is _ _) rfl rfl (fun a w hm hd => ⟨wanted_plain rfl, st_move rfl (by rw [hm.outer 7 (by kernel_rfl)]; rfl)⟩) ?_
    refine Walk.val (G := Is (.int .i64 (b.toNat : Int))) (stays_is _ _) rfl rfl (fun a w hm hd => ⟨wanted_plain rfl, st_move rfl (by rw [hm.outer 2 (by kernel_rfl)]; rfl)⟩) ?_
    refine Walk.call (G := Is (.int .i64 ((saw c b : Nat) : Int))) (stays_is _ _) rfl 27 rfl (fun a w hm ha hd => ⟨wanted_plain rfl, _, ex_call2 Try.func27 (by kernel_rfl) (by kernel_rfl) rfl, by rw [show a.eval (.tmp 27) = _ from (hd.at_ 3 rfl rfl rfl rfl), show a.eval (.tmp 28) = _ from (hd.at_ 4 rfl rfl rfl rfl)]; exact (rsaw_any c b HC.out w).mono (fun e w2 ⟨he, hw⟩ => ⟨_, he, by rw [hw]; exact grown_refl _ _, rfl⟩)⟩) ?_
    intro a9 V9 hm9 hall
    have f25 : Is (.map (some gb)) (a9.eval (.tmp 25)) V9 := hall 1 _ _ rfl rfl
    have f26 : Is (.int .i64 kk) (a9.eval (.tmp 26)) V9 := hall 2 _ _ rfl rfl
    have f29 : Is (.int .i64 ((saw c b : Nat) : Int)) (a9.eval (.tmp 29)) V9 := hall 5 _ _ rfl rfl
    have hfr := hm9.frame
    simp only [List.take_succ_cons, List.take_zero, List.filterMap_cons, List.filterMap_nil, List.foldl_cons, List.foldl_nil] at hfr
    have hgV9 := GrownX.none2 hm9.grow
    have f25 : a9.eval (.tmp 25) = _ := f25
    rw [f25] at hfr
    have f26 : a9.eval (.tmp 26) = _ := f26
    rw [f26] at hfr
    have f29 : a9.eval (.tmp 29) = _ := f29
    rw [f29] at hfr
    generalize a9.eval (.tmp 24) = e24 at hfr
    generalize a9.eval (.tmp 27) = e27 at hfr
    generalize a9.eval (.tmp 28) = e28 at hfr
    clear hall hm9
    obtain ⟨w4, hst, hm4, hg4⟩ := (HM3.out.grown0 hgV9).store (by have := HN.out; unfold maxLen; omega) kk HF.out ((saw c b : Nat) : Int) (by have := HSW.out; unfold Okn at this; exact ⟨by omega, by omega⟩)
    have HM4 := Lib.hid hm4
    have HR4 := Lib.hid ((HR3.out.grown0 hgV9).grown hg4 (fun e => by have h1 := Option.some.inj e; have := HGB.out; omega))
    have HZ4 := Lib.hid ((HZ3.out.grown0 hgV9).grown hg4 (fun e => by have h1 := Option.some.inj e; have := HGB.out; omega))
    have HRD4 := Lib.hid ((HRD3.out.grown0 hgV9).keepM (HM3.out.grown0 hgV9) hg4)
    have HG4 := Lib.hid (show w.grownBy w4 (some gb) from grown_trans2 (show w.grownBy V9 (some gb) from (let h := HG3.out.trans hgV9; ⟨h.os, h.tape, h.output, h.size, fun k hk _ => h.block k hk (by simp)⟩)) hg4)
    clear hm4 hg4 hgV9 HM3 HR3 HZ3 HRD3 HG3
    unfold wpList
    rw [hfr]
    clear hfr
    go_simp
    unfold wpList
    go_simp
    rename ∀ (a : Act) (w : World), Code.wp _ _ _ a w → _ => hK
    first
      | refine .inl (hK _ _ ?_)
      | refine hK _ _ ?_
    go_wp2_with (first
      | refine wpList_load_row _ rfl _ 96 rfl gs 96 _ _ rfl HR4.out Try.underlying96 rfl (by kernel_rfl) ?_
      | (refine wpList_store_row _ rfl rfl _ _ 96 rfl (gs + 1) 96 _ [.slice A2 S2.out.length k2, .int .i64 (S2.low : Int), .int .i64 (S2.width : Int), .map (some gb)] rfl rfl HZ4.out rfl (by simp [Value.oneCell']) (by kernel_rfl) ?_; intro w5 hr5 hg5))
    refine bodyPost_ret (v := sV (.slice A2 S2.out.length k2) S2 gb) (results_row Try.results49 (gs + 1) 96 _ _ rfl hr5 Try.underlying96 rfl (by kernel_rfl)) rfl ?_
    refine ⟨_, rfl, HRD4.out.keepT HZ4.out (by simp) hg5, HM4.out.kept hg5 (fun e => by have h1 := Option.some.inj e; have := HGB.out; omega), ⟨hg5.os.trans HG4.out.os, hg5.tape.trans HG4.out.tape, hg5.output.trans HG4.out.output, Nat.le_trans HG4.out.size hg5.size, fun k hk hne => (hg5.block k (Nat.lt_of_lt_of_le hk HG4.out.size) (fun e => by have h1 := Option.some.inj e; have := HGS.out; omega)).trans (HG4.out.block k hk hne)⟩, fun he k hk => (HSR.out he k hk).imp_right (fun h => Nat.le_trans HG00.out.size h)⟩
end Go.Proofs.Ytibofgokdjbomaa

/-
  The document's own tree of layer 11 over this program; the document's chances and the program's.
-/
namespace Go.Proofs.Ytibofgokdjbomaa
set_option maxRecDepth 1000000
open Go.RowKit

/-- Where the document keeps the chance that the program keeps at a place. -/
def refKey (p : Nat) : Int := if p < 2 then (p : Int) else if p < 2050 then 10000 + 1000 * (((p - 2) / 256 : Nat) : Int) + (((p - 2) % 256 : Nat) : Int) else if p < 2306 then 1000 + ((p - 2050 : Nat) : Int) else 2000 + ((p - 2306 : Nat) : Int)
theorem refKey_inj {p q : Nat} (hp : p < 2322) (hq : q < 2322) (h : refKey p = refKey q) : p = q := by
  unfold refKey at h
  split at h <;> split at h <;> (try split at h) <;> (try split at h) <;> (try split at h) <;> (try split at h) <;> omega
theorem refKey_fits {p : Nat} (hp : p < 2322) : 0 ≤ refKey p ∧ refKey p ≤ 100000 := by
  unfold refKey
  split
  · omega
  · split
    · omega
    · split <;> omega
/-- The document's chances are the program's. -/
def MR (M : Int → Option Int) (L : List Nat) : Prop := ∀ p, p < 2322 → (M (refKey p)).getD 1024 = ((L.getD p 0 : Nat) : Int)
theorem MR.begin : MR (fun _ => none) (List.replicate 2322 1024) := by
  intro p hp
  rw [List.getD_eq_getElem?_getD, List.getElem?_replicate, if_pos hp]
  rfl
theorem MR.set {M : Int → Option Int} {L : List Nat} (h : MR M L) (hl : L.length = 2322) {p : Nat} (hp : p < 2322) (c : Nat) : MR (fun y => if y = refKey p then some (c : Int) else M y) (L.set p c) := by
  intro q hq
  by_cases e : q = p
  · subst e
    show ((if refKey q = refKey q then some (c : Int) else M (refKey q))).getD 1024 = _
    rw [if_pos rfl, List.getD_eq_getElem?_getD, List.getElem?_set_self (by omega)]
    rfl
  · show ((if refKey q = refKey p then some (c : Int) else M (refKey q))).getD 1024 = _
    rw [if_neg (fun e2 => e (refKey_inj hq hp e2)), h q hq, List.getD_eq_getElem?_getD, List.getD_eq_getElem?_getD, List.getElem?_set_ne (fun e2 => e e2.symm)]
/-- A state of the document's, as a call answers it. -/
def TOutR (v0 : Value) (O : List UInt8) (gb n : Nat) (p : Cst × List Nat) (w : World) (e : Ending) (w' : World) : Prop :=
  ∃ v M, e = .returned (sV v p.1 gb) ∧ Rd w' v (bytesV p.1.out) ∧ Mi w' gb n M ∧ MR M p.2 ∧ w.grownBy w' (some gb) ∧ (p.1.out ≠ [] → ∀ k, v.ownBlock = some k → (O ≠ [] ∧ v0.ownBlock = some k) ∨ w.heap.size ≤ k)
theorem bitK_any (v : Value) (S : Cst) (gb n : Nat) (M : Int → Option Int) (L : List Nat) (p : Nat) (kk : Int) (b : Bool) (w : World) (hr : Rd w v (bytesV S.out)) (hm : Mi w gb n M) (hM : MR M L) (hll : L.length = 2322) (hL : Okl L) (hp : p < 2322) (hk : kk = refKey p) (hs : Okc S) (hl : S.out.length ≤ 100000) (hn : n ≤ 1000000) :
    Calls Try.prog 49 #[sV v S gb, .int .i64 kk, .int .i64 (b.toNat : Int)] w (TOutR v S.out gb (n + 1) (bitS S L p b) w) := by
  subst hk
  have hf := refKey_fits hp
  refine (bitR_any v S gb n M (refKey p) (L.getD p 0) b w hr hm (hM p hp) ⟨by omega, by omega⟩ hs (hL.at_ (by omega)) hl hn).mono ?_
  rintro e w' ⟨v', rfl, h1, h2, h3, h4⟩
  exact ⟨v', _, rfl, h1, h2, hM.set hll hp _, h3, h4⟩
/-- In the midst of a tree. -/
structure TrR (w W : World) (gs gb n : Nat) (v0 : Value) (O : List UInt8) (v : Value) (S : Cst) (L : List Nat) : Prop where
  row : Row W gs 96 (sC v S gb)
  rd : Rd W v (bytesV S.out)
  map : ∃ M, Mi W gb n M ∧ MR M L
  zero : Row W (gs + 1) 96 [.slice none 0 0, .int .i64 0, .int .i64 0, .map none]
  grow : w.grownBy W (some gb)
  sep : S.out ≠ [] → ∀ k, v.ownBlock = some k → (O ≠ [] ∧ v0.ownBlock = some k) ∨ w.heap.size ≤ k
set_option maxHeartbeats 8000000 in
theorem treeR_any (v0 : Value) (S0 : Cst) (gb n0 : Nat) (M0 : Int → Option Int) (L0 : List Nat) (base m : Nat) (fk : Int) (n B : Nat) (w : World) (hr : Rd w v0 (bytesV S0.out)) (hm : Mi w gb n0 M0) (hM : MR M0 L0) (hll : L0.length = 2322) (hL : Okl L0) (hbm : base + m ≤ 2322) (hk : ∀ q, q < m → refKey (base + q) = fk + (q : Int)) (hf : 0 ≤ fk ∧ fk ≤ 100000) (hs : Okw S0) (hl : S0.out.length ≤ 90000) (hn0 : n0 ≤ 900000) (hB : B ≤ 16) (hBm : (1 + 1) * 2 ^ B ≤ 2 * m) (hn : n ≤ 1000000) :
    Calls Try.prog 50 #[sV v0 S0 gb, .int .i64 fk, .int .i64 (n : Int), .int .i64 (B : Int)] w (TOutR v0 S0.out gb (n0 + B) (treeB S0 L0 base (n : Int) B 1) w) := by
  obtain ⟨gs, hgs⟩ : ∃ g, w.heap.size = g := ⟨_, rfl⟩
  obtain ⟨W0, hW0⟩ : ∃ W, (w.alloc (.cells #[v0, .int .i64 (S0.low : Int), .int .i64 (S0.width : Int), .map (some gb)] 96)).alloc (.cells #[.slice none 0 0, .int .i64 0, .int .i64 0, .map none] 96) = W := ⟨_, rfl⟩
  have hG0 : w.grownBy W0 none := by rw [← hW0]; exact grown_alloc (grown_alloc (grown_refl _ _) _) _
  have HS := Lib.hid (show TrR w W0 gs gb n0 v0 S0.out v0 S0 L0 from
    ⟨by rw [← hW0]; exact (Row.newAt w _ (sC v0 S0 gb) hgs).alloc _, hr.grown0 hG0, ⟨M0, hm.grown0 hG0, hM⟩, by rw [← hW0]; exact Row.newAt _ _ [.slice none 0 0, .int .i64 0, .int .i64 0, .map none] (by simp [hgs]), ⟨hG0.os, hG0.tape, hG0.output, hG0.size, fun k hk _ => hG0.block k hk (by simp)⟩, fun he k hk => .inl ⟨he, hk⟩⟩)
  have HGB := Lib.hid (show gb < gs by rw [← hgs]; exact hm.lt)
  have HGS := Lib.hid hgs
  have HK := Lib.hid hk
  have HBM := Lib.hid hbm
  have HF := Lib.hid hf
  have HN0 := Lib.hid hn0
  have HSL := Lib.hid hl
  have HNN := Lib.hid hn
  have HOK := Lib.hid (And.intro hs (And.intro hL (And.intro hll hBm)))
  have hwB : IntKind.i64.wrap ((B : Int) - 1) = (B : Int) - 1 := by rw [IntKind.wrap_i64]; omega
  clear hr hm hM hll hL hbm hk hf hs hl hn0 hBm hn hG0
  unfold sV
  go_enter Try.func50, Try.ntmps50
  go_wp2
  clear hW0 hgs
  go_loopw [9, 10] (fun at_ i W => ∃ (j p n' : Nat) (v : Value) (S : Cst) (L : List Nat), j ≤ B ∧ i = .int .i64 ((j : Int) - 1) ∧ at_ = .int .i64 (p : Int) ∧ (Okw S ∧ Okl L ∧ L.length = 2322 ∧ (p + 1) * 2 ^ j ≤ 2 * m) ∧ (S.out.length + j ≤ S0.out.length + B ∧ n' + j = n0 + B) ∧ treeB S L base (n : Int) j p = treeB S0 L0 base (n : Int) B 1 ∧ TrR w W gs gb n' v0 S0.out v S L) (fun _ i _ => (intOf i + 1).toNat)
  case atStart => exact ⟨B, 1, n0, v0, S0, L0, Nat.le_refl _, rfl, rfl, ⟨HOK.out.1, HOK.out.2.1, HOK.out.2.2.1, HOK.out.2.2.2⟩, ⟨Nat.le_refl _, rfl⟩, rfl, HS.out⟩
  case round =>
    obtain ⟨j, p, n', v, S, L, hj, rfl, rfl, ho, hln, htr, hh⟩ := hrel
    have HH := Lib.hid hh
    have HO := Lib.hid ho
    have HLN := Lib.hid hln
    have HTR := Lib.hid htr
    clear ho hln htr HS
    cases j with
    | zero =>
      have hd : decide (0 ≤ ((0 : Nat) : Int) - 1) = false := rfl
      obtain ⟨M, hm1, hm2⟩ := hh.map
      have HM := Lib.hid (And.intro hm1 hm2)
      have hn1 : n' = n0 + B := by have := HLN.out.2; omega
      have HT2 := Lib.hid (show (S, L) = treeB S0 L0 base (n : Int) B 1 from HTR.out)
      subst hn1
      clear hh
      go_wp2_with (first
        | refine wpList_load_row _ rfl _ 96 rfl gs 96 _ _ rfl HH.out.row Try.underlying96 rfl (by kernel_rfl) ?_
        | (refine wpList_store_row _ rfl rfl _ _ 96 rfl (gs + 1) 96 _ (sC v S gb) rfl rfl HH.out.zero rfl (by obtain ⟨A, c, rfl⟩ := HH.out.rd.form; simp [sC, Value.oneCell']) (by kernel_rfl) ?_; intro w5 hr5 hg5))
      rw [← HT2.out]
      refine bodyPost_ret (v := sV v S gb) (results_row Try.results50 (gs + 1) 96 _ _ rfl hr5 Try.underlying96 rfl (by kernel_rfl)) rfl ?_
      have HG4 := HH.out.grow
      exact ⟨v, M, rfl, HH.out.rd.keepT HH.out.zero (by simp) hg5, HM.out.1.kept hg5 (fun e => by have h1 := Option.some.inj e; have := HGB.out; omega), HM.out.2, ⟨hg5.os.trans HG4.os, hg5.tape.trans HG4.tape, hg5.output.trans HG4.output, Nat.le_trans HG4.size hg5.size, fun k hk hne => (hg5.block k (Nat.lt_of_lt_of_le hk HG4.size) (fun e => by have h1 := Option.some.inj e; have := HGS.out; omega)).trans (HG4.block k hk hne)⟩, HH.out.sep⟩
    | succ jj =>
      have hd : decide (0 ≤ ((jj + 1 : Nat) : Int) - 1) = true := by rw [decide_eq_true_eq]; omega
      rw [show ((jj + 1 : Nat) : Int) - 1 = (jj : Int) by omega] at *
      have hpl : p < m := tree_lt HO.out.2.2.2
      obtain ⟨M, hm1, hm2⟩ := hh.map
      have HM := Lib.hid (And.intro hm1 hm2)
      have HBA := Lib.hid (bitAtR_any n jj HNN.out (by omega) wr)
      have hfk := HF.out
      have hbm := HBM.out
      have hwf : IntKind.i64.wrap (fk + (p : Int)) = fk + (p : Int) := by rw [IntKind.wrap_i64]; omega
      obtain ⟨bb, hbb⟩ : ∃ bb, bitAt (n : Int) jj = bb := ⟨_, rfl⟩
      rw [hbb] at HBA
      have hb1 := bit_le bb
      have HTR2 := Lib.hid (show treeB (bitS S L (base + p) bb).1 (bitS S L (base + p) bb).2 base (n : Int) jj (2 * p + bb.toNat) = treeB S0 L0 base (n : Int) B 1 by
        have h := HTR.out
        rw [treeB, hbb] at h
        exact h)
      have HNX := Lib.hid (show Okw (bitS S L (base + p) bb).1 ∧ Okl (bitS S L (base + p) bb).2 ∧ (bitS S L (base + p) bb).2.length = 2322 ∧ (2 * p + bb.toNat + 1) * 2 ^ jj ≤ 2 * m from ⟨(bitS_okw bb HO.out.1 HO.out.2.1 (by rw [HO.out.2.2.1]; omega)).1, (bitS_okw bb HO.out.1 HO.out.2.1 (by rw [HO.out.2.2.1]; omega)).2, (bitS_len _ _ _ _).trans HO.out.2.2.1, tree_next bb HO.out.2.2.2⟩)
      have HNL := Lib.hid (show (bitS S L (base + p) bb).1.out.length + jj ≤ S0.out.length + B by
        have := putS_len S (S.width / 2048 * L.getD (base + p) 0) bb
        have := HLN.out.1
        show (putS _ _ _).out.length + jj ≤ _
        omega)
      have HBK := Lib.hid (fun W (h1 : Rd W v (bytesV S.out)) (h2 : Mi W gb n' M) => bitK_any v S gb n' M L (base + p) (fk + (p : Int)) bb W h1 h2 HM.out.2 HO.out.2.2.1 HO.out.2.1 (by omega) (HK.out p hpl).symm HO.out.1.ok (by have := HLN.out.1; have := HSL.out; omega) (by have := HLN.out.2; have := HN0.out; omega))
      generalize bitS S L (base + p) bb = S1 at *
      have hp3 : p ≤ 3000 := by omega
      have hb2 : (bb.toNat : Int) ≤ 1 := by omega
      have hw1 : IntKind.i64.wrap ((p : Int) * 2) = (p : Int) * 2 := by rw [IntKind.wrap_i64]; omega
      have hw2 : IntKind.i64.wrap ((p : Int) * 2 + (bb.toNat : Int)) = (p : Int) * 2 + (bb.toNat : Int) := by rw [IntKind.wrap_i64]; omega
      have hw3 : IntKind.i64.wrap ((jj : Int) - 1) = (jj : Int) - 1 := by rw [IntKind.wrap_i64]; omega
      generalize bb.toNat = bn at *
      clear hh hm1 hm2 hbb hfk hbm
      go_wp2_with fail
      refine HBA.out.mono ?_
      rintro e w2 ⟨rfl, hg2⟩
      have HR2 := Lib.hid (HH.out.row.grown0 hg2)
      have HD2 := Lib.hid (HH.out.rd.grown0 hg2)
      have HM2 := Lib.hid (HM.out.1.grown0 hg2)
      have HZ2 := Lib.hid (HH.out.zero.grown0 hg2)
      have HG2 := Lib.hid (show w.grownBy w2 (some gb) from grown_trans2 HH.out.grow ⟨hg2.os, hg2.tape, hg2.output, hg2.size, fun k hk _ => hg2.block k hk (by simp)⟩)
      have HSP := Lib.hid HH.out.sep
      clear hg2 HBA
      go_wp2_with (refine wpList_load_row _ rfl _ 96 rfl gs 96 _ _ rfl HR2.out Try.underlying96 rfl (by kernel_rfl) ?_)
      refine (HBK.out w2 HD2.out HM2.out).mono ?_
      rintro e w3 ⟨v3, M3, rfl, hr3, hm3, hM3, hg3, hs3⟩
      have HR3 := Lib.hid (HR2.out.grown hg3 (fun e => by have h1 := Option.some.inj e; have := HGB.out; omega))
      have HZ3 := Lib.hid (HZ2.out.grown hg3 (fun e => by have h1 := Option.some.inj e; have := HGB.out; omega))
      have HG3 := Lib.hid (grown_trans2 HG2.out hg3)
      have HV3 := Lib.hid (show Rd w3 v3 (bytesV S1.1.out) ∧ Mi w3 gb (n' + 1) M3 ∧ MR M3 S1.2 from ⟨hr3, hm3, hM3⟩)
      have HS3 := Lib.hid (show S1.1.out ≠ [] → ∀ k, v3.ownBlock = some k → (S0.out ≠ [] ∧ v0.ownBlock = some k) ∨ w.heap.size ≤ k from fun he k hk => by
        rcases hs3 he k hk with ⟨h1, h2⟩ | h1
        · exact HSP.out h1 k h2
        · exact .inr (Nat.le_trans HG2.out.size h1))
      clear hr3 hm3 hM3 hg3 hs3 HBK HR2 HD2 HM2 HZ2 HG2
      go_wp2_with (refine wpList_store_row _ rfl rfl _ _ 96 rfl gs 96 _ (sC v3 S1.1 gb) rfl rfl HR3.out rfl (by obtain ⟨A, c, rfl⟩ := HV3.out.1.form; simp [sC, Value.oneCell']) (by kernel_rfl) ?_; intro w4 hr4 hg4; have HR4 := Lib.hid hr4; have HG4 := Lib.hid hg4; clear hr4 hg4)
      go_roundw
      case rel =>
        have hg3 := HG3.out
        have hg4 := HG4.out
        refine ⟨jj, 2 * p + bn, n' + 1, v3, S1.1, S1.2, by omega, rfl, by go_num, HNX.out, ⟨HNL.out, by have := HLN.out.2; omega⟩, HTR2.out, ⟨HR4.out, HV3.out.1.keepT HR3.out (by simp [sC]; obtain ⟨A, c, e⟩ := HH.out.rd.form; rw [e]; simp) hg4, ⟨M3, HV3.out.2.1.kept hg4 (fun e => by have h1 := Option.some.inj e; have := HGB.out; omega), HV3.out.2.2⟩, HZ3.out.grown hg4 (fun e => by have h1 := Option.some.inj e; omega), ⟨hg4.os.trans hg3.os, hg4.tape.trans hg3.tape, hg4.output.trans hg3.output, Nat.le_trans hg3.size hg4.size, fun k hk hne => (hg4.block k (Nat.lt_of_lt_of_le hk hg3.size) (fun e => by have h1 := Option.some.inj e; have := HGS.out; omega)).trans (hg3.block k hk hne)⟩, HS3.out⟩⟩
      case measure => simp only [intOf]; omega
end Go.Proofs.Ytibofgokdjbomaa

/-
  The document's own Write of layer 11: what it keeps in memory.
-/
namespace Go.Proofs.Ytibofgokdjbomaa
set_option maxRecDepth 1000000
open Go.RowKit

theorem key_kind {k : Nat} (h : k ≤ 1) : (k : Int) = refKey k := by unfold refKey; rw [if_pos (by omega)]
theorem key_lits {w q : Nat} (hw : w < 8) (hq : q < 256) : refKey (2 + 256 * w + q) = 10000 + 1000 * (w : Int) + (q : Int) := by
  unfold refKey
  rw [if_neg (by omega), if_pos (by omega)]
  omega
theorem key_lens {q : Nat} (hq : q < 256) : refKey (2050 + q) = 1000 + (q : Int) := by
  unfold refKey
  rw [if_neg (by omega), if_neg (by omega), if_pos (by omega)]
  omega
theorem key_backs {q : Nat} : refKey (2306 + q) = 2000 + (q : Int) := by
  unfold refKey
  rw [if_neg (by omega), if_neg (by omega), if_neg (by omega)]
  omega
theorem min_kind (t : Tok) (h : 0 ≤ t.len) : min t.len 1 = ((kindN t : Nat) : Int) := by unfold kindN; split <;> omega
theorem kind_bit (t : Tok) : (kindN t : Int) = ((decide (0 < t.len)).toNat : Int) := by unfold kindN; split <;> simp [*]

/-- What Write keeps: a state in a box, its bytes, its chances, the bytes so far. -/
structure WrR (w W : World) (gs gb n : Nat) (v : Value) (S : Cst) (L : List Nat) (u : Value) (h : List UInt8) : Prop where
  row : Row W gs 96 (sC v S gb)
  rd : Rd W v (bytesV S.out)
  map : ∃ M, Mi W gb n M ∧ MR M L
  own : W.ownsRow w.heap.size 5 1 u h.length (bytesV h)
  off : ∀ k, u.ownBlock = some k → k ≠ gs ∧ k ≠ gb ∧ (S.out ≠ [] → v.ownBlock ≠ some k)
  new : w.heap.size ≤ gs ∧ w.heap.size ≤ gb ∧ gb ≠ gs
  vnw : S.out ≠ [] → ∀ k, v.ownBlock = some k → w.heap.size ≤ k ∧ k < W.heap.size
  grow : w.grownBy W none
/-- And a token in a box. -/
structure WrT (w W : World) (gs gb n : Nat) (v : Value) (S : Cst) (L : List Nat) (u : Value) (h : List UInt8) (gt : Nat) (t : Tok) : Prop where
  r : WrR w W gs gb n v S L u h
  tk : Row W gt 41 (tokC t)
  ne : gt ≠ gs ∧ gt ≠ gb ∧ ∀ k, u.ownBlock = some k → k ≠ gt
section
variable {w W W' W4 : World} {gs gb n n' : Nat} {v v' : Value} {S S' : Cst} {L L' : List Nat} {u u' : Value} {h : List UInt8} {gt : Nat} {t : Tok}
theorem WrR.grown0 (k : WrR w W gs gb n v S L u h) (hg : W.grownBy W' none) : WrR w W' gs gb n v S L u h := by
  obtain ⟨M, m1, m2⟩ := k.map
  exact ⟨k.row.grown0 hg, k.rd.grown0 hg, ⟨M, m1.grown0 hg, m2⟩, own_grown k.own hg, k.off, k.new, fun he j hj => ⟨(k.vnw he j hj).1, Nat.lt_of_lt_of_le (k.vnw he j hj).2 hg.size⟩, k.grow.trans hg⟩
theorem WrT.grown0 (k : WrT w W gs gb n v S L u h gt t) (hg : W.grownBy W' none) : WrT w W' gs gb n v S L u h gt t := ⟨k.r.grown0 hg, k.tk.grown0 hg, k.ne⟩
theorem sC_no (v : Value) (S : Cst) (gb : Nat) {l : List UInt8} {W : World} (hr : Rd W v (bytesV l)) (z : Int) : Value.int .u8 z ∉ sC v S gb := by
  obtain ⟨A, c, rfl⟩ := hr.form
  simp [sC]
theorem Rd.ltE {W : World} {v : Value} {l : List UInt8} (h : Rd W v (bytesV l)) (hl : l ≠ []) {b : Nat} (hb : v.ownBlock = some b) : b < W.heap.size := by
  obtain ⟨A, c, rfl⟩ := h.form
  have hl' : bytesV l ≠ [] := by cases l with
    | nil => exact absurd rfl hl
    | cons => simp [bytesV]
  obtain ⟨ad, e, hc⟩ := h.cells hl'
  subst e
  have := World.block_lt_of_cell? W _ (hc 0 _ (List.getElem?_eq_getElem (List.length_pos_iff.2 hl')))
  rw [add_block] at this
  cases hb
  exact this
/-- A step of the state, laid into its box. -/
theorem WrR.step {p : Cst × List Nat} {M : Int → Option Int} (k : WrR w W gs gb n v S L u h) (hr : Rd W' v' (bytesV p.1.out)) (hm : Mi W' gb n' M) (hM : MR M p.2) (hg : W.grownBy W' (some gb)) (hs : p.1.out ≠ [] → ∀ j, v'.ownBlock = some j → (S.out ≠ [] ∧ v.ownBlock = some j) ∨ W.heap.size ≤ j)
    (hR : Row W4 gs 96 (sC v' p.1 gb)) (hg4 : W'.grownBy W4 (some gs)) : WrR w W4 gs gb n' v' p.1 p.2 u h := by
  obtain ⟨n1, n2, n3⟩ := k.new
  have hgs : gs < W.heap.size := k.row.lt
  have hrow' : Row W' gs 96 (sC v S gb) := k.row.grown hg (fun e => n3 (Option.some.inj e).symm)
  refine ⟨hR, hr.keepT hrow' (sC_no v S gb k.rd) hg4, ⟨M, hm.kept hg4 (fun e => n3 (Option.some.inj e)), hM⟩, own_same (own_same k.own (fun j hj => hg.block j (k.own.lt j hj).2 (fun e => (k.off j hj).2.1 (Option.some.inj e)))) (fun j hj => hg4.block j (Nat.lt_of_lt_of_le (k.own.lt j hj).2 hg.size) (fun e => (k.off j hj).1 (Option.some.inj e))), fun j hj => ⟨(k.off j hj).1, (k.off j hj).2.1, fun he e => ?_⟩, k.new, fun he j hj => ⟨?_, Nat.lt_of_lt_of_le (hr.ltE he hj) hg4.size⟩, grown_own (grown_own k.grow hg n2) hg4 n1⟩
  · rcases hs he j e with ⟨h1, h2⟩ | h1
    · exact (k.off j hj).2.2 h1 h2
    · have := (k.own.lt j hj).2; omega
  · rcases hs he j hj with ⟨h1, h2⟩ | h1
    · exact (k.vnw h1 j h2).1
    · exact Nat.le_trans k.grow.size h1
theorem WrT.step {p : Cst × List Nat} {M : Int → Option Int} (k : WrT w W gs gb n v S L u h gt t) (hr : Rd W' v' (bytesV p.1.out)) (hm : Mi W' gb n' M) (hM : MR M p.2) (hg : W.grownBy W' (some gb)) (hs : p.1.out ≠ [] → ∀ j, v'.ownBlock = some j → (S.out ≠ [] ∧ v.ownBlock = some j) ∨ W.heap.size ≤ j)
    (hR : Row W4 gs 96 (sC v' p.1 gb)) (hg4 : W'.grownBy W4 (some gs)) : WrT w W4 gs gb n' v' p.1 p.2 u h gt t :=
  ⟨k.r.step hr hm hM hg hs hR hg4, (k.tk.grown hg (fun e => k.ne.2.1 (Option.some.inj e))).grown hg4 (fun e => k.ne.1 (Option.some.inj e)), k.ne⟩
/-- A step of the writer alone. -/
theorem WrT.even (k : WrT w W gs gb n v S L u h gt t) (hg : W.grownBy W' none) (hr : Rd W' v' (bytesV S'.out)) (hs : S'.out ≠ [] → ∀ j, v'.ownBlock = some j → (S.out ≠ [] ∧ v.ownBlock = some j) ∨ W.heap.size ≤ j)
    (hR : Row W4 gs 96 (sC v' S' gb)) (hg4 : W'.grownBy W4 (some gs)) : WrT w W4 gs gb n v' S' L u h gt t := by
  obtain ⟨M, m1, m2⟩ := k.r.map
  exact k.step (p := (S', L)) hr (m1.grown0 hg) m2 ⟨hg.os, hg.tape, hg.output, hg.size, fun j hj _ => hg.block j hj (by simp)⟩ hs hR hg4
/-- A byte more. -/
theorem WrT.app {c : UInt8} (k : WrT w W gs gb n v S L u h gt t) (ho : W'.ownsRow w.heap.size 5 1 u' (h.length + 1) (bytesV h ++ bytesV [c])) (hg : W.grownBy W' u.ownBlock) (hat : u'.ownBlock = u.ownBlock ∨ u'.ownBlock = some W.heap.size) : WrT w W' gs gb n v S L u' (h ++ [c]) gt t := by
  obtain ⟨M, m1, m2⟩ := k.r.map
  have hk := k.r
  refine ⟨⟨hk.row.grown hg (fun e => (hk.off gs e.symm).1 rfl), hk.rd.keepE (fun he j hj hlt => hg.block j hlt (fun e => (hk.off j e.symm).2.2 (bytesV_ne he) hj)), ⟨M, m1.kept hg (fun e => (hk.off gb e.symm).2.1 rfl), m2⟩, ?_, fun j hj => ?_, hk.new, fun he j hj => ⟨(hk.vnw he j hj).1, Nat.lt_of_lt_of_le (hk.vnw he j hj).2 hg.size⟩, grown_new hk.grow hg (fun j e => (hk.own.lt j e).1)⟩, k.tk.grown hg (fun e => k.ne.2.2 gt e.symm rfl), k.ne.1, k.ne.2.1, fun j hj => ?_⟩
  · rw [bytesV_app, List.length_append, List.length_singleton]
    exact ho
  · rcases hat with e | e
    · exact hk.off j (by rw [← e]; exact hj)
    · rw [e] at hj
      cases hj
      exact ⟨fun e => by have := hk.row.lt; omega, fun e => by have := m1.lt; omega, fun he e => by have := (hk.vnw he _ e).2; omega⟩
  · rcases hat with e | e
    · exact k.ne.2.2 j (by rw [← e]; exact hj)
    · rw [e] at hj
      cases hj
      exact fun e => by have := k.tk.lt; omega
end
end Go.Proofs.Ytibofgokdjbomaa
