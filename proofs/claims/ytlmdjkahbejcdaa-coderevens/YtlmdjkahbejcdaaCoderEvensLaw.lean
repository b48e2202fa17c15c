/-
  The law CoderEvens, walked.
-/
import Derived.Test.YtlmdjkahbejcdaaCodNil
import Derived.Test.YtlmdjkahbejcdaaCodDo
import Derived.Test.YtlmdjkahbejcdaaCodPot
import Derived.Test.YtlmdjkahbejcdaaReg3
import Derived.Test.YtlmdjkahbejcdaaStepOps
namespace Go.Proofs.Ytlmdjkahbejcdaa
open Go.RowKit

theorem Rd.intAt {w : World} {A : Option Addr} {n c k : Nat} {l : List Int} (h : Rd w (.slice A n c) (l.map fun z : Int => Value.int .i64 z)) (hk : k < n) : ∃ ad z, A = some ad ∧ z ∈ l ∧ w.cell? (ad.add k) = some (.int .i64 z) := by
  obtain ⟨ad, u, rfl, hu, hc⟩ := h.cellAt hk
  simp only [List.getElem?_map, Option.map_eq_some_iff] at hu
  obtain ⟨z, hz, rfl⟩ := hu
  exact ⟨ad, z, rfl, List.mem_of_getElem? hz, hc⟩
/-- Two writers, apart. -/
structure Two (w W : World) (g1 g2 : Nat) (v1 v2 : Option Nat) (S T : Cst) : Prop where
  one : Wt W g1 v1 S
  two : Wt W g2 v2 T
  ne : g1 ≠ g2 ∧ v1 ≠ some g2 ∧ v2 ≠ some g1 ∧ (∀ b, v1 = some b → v2 ≠ some b)
  new1 : w.heap.size ≤ g1 ∧ ∀ b, v1 = some b → w.heap.size ≤ b
  new2 : w.heap.size ≤ g2 ∧ ∀ b, v2 = some b → w.heap.size ≤ b
  grow : w.grownBy W none
theorem Two.grown0 {w W W' : World} {g1 g2 : Nat} {v1 v2 : Option Nat} {S T : Cst} (h : Two w W g1 g2 v1 v2 S T) (hg : W.grownBy W' none) : Two w W' g1 g2 v1 v2 S T :=
  ⟨h.one.grown0 hg, h.two.grown0 hg, h.ne, h.new1, h.new2, h.grow.trans hg⟩
/-- The first one is put to. -/
theorem Two.first {w W W' : World} {g1 g2 : Nat} {v1 v2 v1' : Option Nat} {S T S' : Cst} (h : Two w W g1 g2 v1 v2 S T) (ht : Wt W' g1 v1' S') (hn : Wn [g1] W v1 W' v1') : Two w W' g1 g2 v1' v2 S' T := by
  obtain ⟨n1, n2, n3, n4⟩ := h.ne
  have hrow : ∀ b, v1' = some b → v1 = some b ∨ W.heap.size ≤ b := fun b hb => by
    rcases hn.row with e | ⟨k, e, hk⟩
    · rw [e] at hb; exact .inl hb
    · rw [e] at hb; cases hb; exact .inr hk
  refine ⟨ht, h.two.wn hn ⟨by simpa using n1.symm, fun e => n2 e.symm⟩ (fun b hb => ⟨fun e => n3 (by rw [hb, List.mem_singleton.1 e]), fun e => n4 b e.symm hb⟩), ⟨n1, fun e => ?_, n3, fun b hb e => ?_⟩, ⟨h.new1.1, fun b hb => ?_⟩, h.new2, Wn.new h.grow hn (fun b hb => by rw [List.mem_singleton.1 hb]; exact h.new1.1) h.new1.2⟩
  · rcases hrow _ e with e | e
    · exact n2 e
    · have := h.two.lt; omega
  · rcases hrow _ hb with e2 | e2
    · exact n4 b e2 e
    · have := h.two.row_lt b e; omega
  · rcases hrow _ hb with e2 | e2
    · exact h.new1.2 b e2
    · exact Nat.le_trans h.grow.size e2
theorem Two.swap {w W : World} {g1 g2 : Nat} {v1 v2 : Option Nat} {S T : Cst} (h : Two w W g1 g2 v1 v2 S T) : Two w W g2 g1 v2 v1 T S :=
  ⟨h.two, h.one, ⟨h.ne.1.symm, h.ne.2.2.1, h.ne.2.1, fun b hb e => h.ne.2.2.2 b e hb⟩, h.new2, h.new1, h.grow⟩
theorem Two.second {w W W' : World} {g1 g2 : Nat} {v1 v2 v2' : Option Nat} {S T T' : Cst} (h : Two w W g1 g2 v1 v2 S T) (ht : Wt W' g2 v2' T') (hn : Wn [g2] W v2 W' v2') : Two w W' g1 g2 v1 v2' S T' := (h.swap.first ht hn).swap

section
variable {o : Oper} {a : Act} {w : World}
theorem st_lenV {x : Operand} {A : Option Addr} {n c : Nat} (h : o.op = .call { callee := .builtin .len, args := #[x], argTypes := #[28] }) (hx : Is (.slice A n c) (a.eval x) w) : Runs (Is (.int .i64 (n : Int))) o a w := by
  have hx' : a.eval x = .slice A n c := hx
  refine ⟨_, ?_, rfl⟩
  unfold execOp
  simp only [h, resolve, invoke, builtin, List.map_toArray, List.map_cons, List.map_nil, hx']
  simp [go_sem]
theorem st_lenI {x : Operand} {A : Option Addr} {n c : Nat} (h : o.op = .call { callee := .builtin .len, args := #[x], argTypes := #[63] }) (hx : Is (.slice A n c) (a.eval x) w) : Runs (Is (.int .i64 (n : Int))) o a w := by
  have hx' : a.eval x = .slice A n c := hx
  refine ⟨_, ?_, rfl⟩
  unfold execOp
  simp only [h, resolve, invoke, builtin, List.map_toArray, List.map_cons, List.map_nil, hx']
  simp [go_sem]
theorem st_geq {x y : Operand} {p q : Int} (h : o.op = .binOp .geq 3 x y 3) (hx : Is (.int .i64 p) (a.eval x) w) (hy : Is (.int .i64 q) (a.eval y) w) (e : q ≤ p) : Runs (Is (.bool true)) o a w := by
  have hx' : a.eval x = .int .i64 p := hx
  have hy' : a.eval y = .int .i64 q := hy
  refine ⟨_, ?_, rfl⟩
  simp only [execOp, h, hx', hy']
  simp [go_sem, e]
theorem st_leq {x y : Operand} {p q : Int} (h : o.op = .binOp .leq 3 x y 3) (hx : Is (.int .i64 p) (a.eval x) w) (hy : Is (.int .i64 q) (a.eval y) w) (e : p ≤ q) : Runs (Is (.bool true)) o a w := by
  have hx' : a.eval x = .int .i64 p := hx
  have hy' : a.eval y = .int .i64 q := hy
  refine ⟨_, ?_, rfl⟩
  simp only [execOp, h, hx', hy']
  simp [go_sem, e]
theorem st_muli {x y : Operand} {p q r : Int} (h : o.op = .binOp .mul 3 x y 3) (hx : Is (.int .i64 p) (a.eval x) w) (hy : Is (.int .i64 q) (a.eval y) w) (e : p * q = r) (h0 : -1000000000000000 ≤ r ∧ r ≤ 1000000000000000) : Runs (Is (.int .i64 r)) o a w := by
  have hx' : a.eval x = .int .i64 p := hx
  have hy' : a.eval y = .int .i64 q := hy
  have hw : IntKind.i64.wrap (p * q) = r := by rw [e, IntKind.wrap_i64]; omega
  refine ⟨_, ?_, rfl⟩
  simp only [execOp, h, hx', hy']
  simp [go_sem, hw]
theorem st_quo7 {x : Operand} {m : Nat} (h : o.op = .binOp .quo 3 x (.const (.int .i64 7)) 3) (hx : Is (.int .i64 (m : Int)) (a.eval x) w) (hm : m ≤ 1000000) : Runs (Is (.int .i64 ((m / 7 : Nat) : Int))) o a w := by
  have hx' : a.eval x = .int .i64 (m : Int) := hx
  have hc : a.eval (.const (.int .i64 7)) = .int .i64 7 := rfl
  have ht : (m : Int).tdiv 7 = (m : Int) / 7 := Int.tdiv_eq_ediv_of_nonneg (by omega)
  have hw : IntKind.i64.wrap ((m : Int) / 7) = (m : Int) / 7 := by rw [IntKind.wrap_i64]; omega
  refine ⟨_, ?_, rfl⟩
  simp only [execOp, h, hx', hc]
  simp [go_sem, ht, hw]
end

set_option maxHeartbeats 8000000 in
theorem coderEvens_walk (A : Option Addr) (len c : Nat) (l : List Int) (q : Int) (w : World) (hr : Rd w (.slice A len c) (l.map fun z : Int => Value.int .i64 z)) (hf : ∀ z ∈ l, In64 z) :
    Calls Try.prog 9 #[.slice A len c, .int .i64 q] w (Awake w) := by
  by_cases hbig : 50 < len ∨ q < 0 ∨ 32 < q
  · clear hr
    by_cases h1 : 50 < len
    · have hd : decide (50 < (len : Int)) = true := by simp; omega
      go_enter Try.func9, Try.ntmps9
      go_wp2_with (go_at_call 10; refine (awake_any _).mono ?_; rintro e w9 ⟨rfl, hg9⟩)
      go_ret
      exact ⟨rfl, hg9⟩
    · have hd : decide (50 < (len : Int)) = false := by simp; omega
      by_cases h2 : q < 0
      · have hd2 : decide (q < 0) = true := by simpa using h2
        go_enter Try.func9, Try.ntmps9
        go_wp2_with (go_at_call 10; refine (awake_any _).mono ?_; rintro e w9 ⟨rfl, hg9⟩)
        go_ret
        exact ⟨rfl, hg9⟩
      · have hd2 : decide (q < 0) = false := by simpa using h2
        have hd3 : decide (32 < q) = true := by simp; omega
        clear hbig
        go_enter Try.func9, Try.ntmps9
        go_wp2_with (go_at_call 10; refine (awake_any _).mono ?_; rintro e w9 ⟨rfl, hg9⟩)
        go_ret
        exact ⟨rfl, hg9⟩
  obtain ⟨B, rfl⟩ : ∃ B : Nat, q = B := ⟨q.toNat, by omega⟩
  have hB : B ≤ 32 := by omega
  have hle : len ≤ 50 := by omega
  have hd : decide (50 < (len : Int)) = false := by simp; omega
  have hd2 : decide ((B : Int) < 0) = false := by simp
  have hd3 : decide (32 < (B : Int)) = false := by simp; omega
  have HRD := Lib.hid hr
  have HF := Lib.hid hf
  clear hbig hr hf
  go_enter Try.func9, Try.ntmps9
  go_wp2_with fail
  refine (begin_any w).mono ?_
  rintro e w1 ⟨g1, rfl, ht1, hge1, hg1⟩
  have H1 := Lib.hid (And.intro ht1 (And.intro hge1 hg1))
  clear ht1 hge1 hg1
  go_wp2_with fail
  refine (begin_any w1).mono ?_
  rintro e w2 ⟨g2, rfl, ht2, hge2, hg2⟩
  have HS := Lib.hid (show Two w w2 g1 g2 none none beginS beginS from ⟨H1.out.1.grown0 hg2, ht2, ⟨fun e => by have := H1.out.1.lt; omega, by simp, by simp, by simp⟩, ⟨H1.out.2.1, by simp⟩, ⟨Nat.le_trans H1.out.2.2.size hge2, by simp⟩, H1.out.2.2.trans hg2⟩)
  clear ht2 hge2 hg2 H1
  go_wp2
  go_loopw [27] (fun i W => ∃ (k : Nat) (S : Cst) (v1 v2 : Option Nat), k ≤ len ∧ i = .int .i64 k ∧ (Okc S ∧ Pot S (k * B)) ∧ Two w W g1 g2 v1 v2 S S) (fun i _ => len - (intOf i).toNat)
  case atStart => exact ⟨0, beginS, none, none, Nat.zero_le _, rfl, ⟨begin_ok, by rw [Nat.zero_mul]; exact pot_begin⟩, HS.out⟩
  case round =>
    obtain ⟨k, S, v1, v2, hk, rfl, ho, hh⟩ := hrel
    have HO := Lib.hid ho
    have HH := Lib.hid hh
    clear ho hh HS
    have hkB : k * B ≤ 1600 := by
      have h1 : k * B ≤ 50 * 32 := Nat.mul_le_mul (by omega) hB
      omega
    have HSL := Lib.hid (show S.out.length ≤ 200 by have := pot_len HO.out.2; omega)
    clear hkB
    by_cases hlt : k < len
    · have hdk : decide ((k : Int) < (len : Int)) = true := by simp; omega
      obtain ⟨ad, n, rfl, hnl, c0⟩ := (HRD.out.grown0 HH.out.grow).intAt hlt
      have hn := HF.out n hnl
      unfold In64 at hn
      have HEV := Lib.hid (even_at g1 v1 S n B wr HH.out.one HO.out.1 (by have := HSL.out; omega) hB hn)
      have hk50 : k < 50 := by omega
      clear hnl
      go_wp2_with fail
      refine HEV.out.mono ?_
      rintro e w3 ⟨rfl, v1', ht3, hn3⟩
      have H3 := Lib.hid (HH.out.first ht3 hn3)
      have HOK := Lib.hid (evenS_ok (n := n) B HO.out.1)
      have HPT := Lib.hid (evenS_pot n B HO.out.2)
      have hwB : IntKind.i64.wrap ((B : Int) - 1) = (B : Int) - 1 := by rw [IntKind.wrap_i64]; omega
      clear ht3 hn3 HEV c0
      go_wp2
      go_loopw [9] (fun i W => ∃ (m : Nat) (T : Cst) (v2' : Option Nat), m ≤ B ∧ i = .int .i64 ((m : Int) - 1) ∧ (Okc T ∧ T.out.length ≤ 200 + (B - m) ∧ evenS T n m = evenS S n B) ∧ Two w W g1 g2 v1' v2' (evenS S n B) T) (fun i _ => (intOf i + 1).toNat)
      case atStart => exact ⟨B, S, v2, Nat.le_refl _, rfl, ⟨HO.out.1, by have := HSL.out; omega, rfl⟩, H3.out⟩
      case round =>
        obtain ⟨m, T, v2', hm, rfl, hot, hht⟩ := hrel
        have HOT := Lib.hid hot
        have HHT := Lib.hid hht
        clear hot hht
        cases m with
        | zero =>
          have HE := Lib.hid (show T = evenS S n B from HOT.out.2.2)
          rw [HE.out] at HHT
          have HP := Lib.hid (show Pot (evenS S n B) ((k + 1) * B) by rw [Nat.succ_mul]; exact HPT.out)
          go_wp2
          go_roundw
          case rel => exact ⟨k + 1, evenS S n B, v1', v2', by omega, by go_num, ⟨HOK.out, HP.out⟩, HHT.out⟩
          case measure => simp only [intOf]; omega
        | succ j =>
          rw [show ((j + 1 : Nat) : Int) - 1 = (j : Int) by omega]
          have hw3 : IntKind.i64.wrap (n / 2 ^ j) = n / 2 ^ j := by
            have := div_in n j hn
            rw [IntKind.wrap_i64]; omega
          have hmin : min j 64 = j := by omega
          have HE2 := Lib.hid (even_at g2 v2' T (n / 2 ^ j) 1 wr HHT.out.two HOT.out.1 (by have := HOT.out.2.1; omega) (by decide) (div_in n j hn))
          rw [even_one] at HE2
          have HNX := Lib.hid (show Okc (putS T (T.width / 2) (bitAt n j)) ∧ (putS T (T.width / 2) (bitAt n j)).out.length ≤ 200 + (B - j) ∧ evenS (putS T (T.width / 2) (bitAt n j)) n j = evenS S n B from
            ⟨putS_ok HOT.out.1 (even_ok HOT.out.1), by have := putS_len T (T.width / 2) (bitAt n j); have := HOT.out.2.1; omega, HOT.out.2.2⟩)
          generalize putS T (T.width / 2) (bitAt n j) = T1 at *
          go_wp2_with fail
          refine HE2.out.mono ?_
          rintro e w4 ⟨rfl, v2b, ht4, hn4⟩
          have H4 := Lib.hid (HHT.out.second ht4 hn4)
          clear ht4 hn4 HE2
          go_wp2
          go_roundw
          case rel => exact ⟨j, T1, v2b, by omega, by go_num, HNX.out, H4.out⟩
          case measure => simp only [intOf]; omega
    · obtain rfl : k = len := by omega
      have hdk : decide ((k : Int) < (k : Int)) = false := by simp
      -- END
      have HE1 := Lib.hid (end_at g1 v1 S wr HH.out.one HO.out.1 (by have := HSL.out; omega))
      have HEL := Lib.hid (show (endS S).length = S.out.length + 4 ∧ 8 * S.out.length ≤ k * B from ⟨endS_len S, pot_len HO.out.2⟩)
      obtain ⟨E, hE⟩ : ∃ E, E = endS S := ⟨_, rfl⟩
      rw [← hE] at HE1 HEL
      have HEE := Lib.hid hE
      clear hE
      go_wp2_with fail
      refine HE1.out.mono ?_
      rintro e w3 ⟨u, rfl, ho3, v1', ht3, hn3⟩
      obtain ⟨A1, c1, rfl⟩ := own_form ho3
      have H3 := Lib.hid (HH.out.first ht3 hn3)
      obtain ⟨T, hT⟩ : ∃ T, T = g2 :: v2.toList := ⟨_, rfl⟩
      have HTM := Lib.hid (show ∀ b, b ∈ T ↔ b = g2 ∨ v2 = some b from fun b => by rw [hT]; simp)
      have HX := Lib.hid (show Rd w3 (.slice A1 E.length c1) (bytesV E) ∧ ∀ b, (Value.slice A1 E.length c1).ownBlock = some b → b ∉ T from ⟨Rd.of_own ho3, fun b hb hm => by
        have h1 := (ho3.lt b hb).1
        rcases (HTM.out b).1 hm with e | e
        · have := HH.out.two.lt; omega
        · have := HH.out.two.row_lt b e; omega⟩)
      have HSUB := Lib.hid (show allOf (fun i => if i = 3 then T else []) T from fun i g hg => by
        have hg' : g ∈ (if i = 3 then T else []) := hg
        by_cases h : i = 3
        · rw [if_pos h] at hg'; exact hg'
        · rw [if_neg h] at hg'; cases hg')
      have HDIS := Lib.hid (show ∀ i j g, g ∈ (fun i => if i = 3 then T else []) i → g ∈ (fun i => if i = 3 then T else []) j → i = j from fun i j g hi hj => by
        by_cases h : i = 3
        · by_cases h' : j = 3
          · omega
          · simp [h'] at hj
        · simp [h] at hi)
      have HK := Lib.hid (show (fun i => if i = 3 then T else []) 3 = T from rfl)
      have HKO := Lib.hid (show ∀ i, i ≠ 3 → (fun i => if i = 3 then T else []) i = [] from fun i h => if_neg h)
      obtain ⟨eff, heff⟩ : ∃ eff : Nat → List Nat, eff = fun i => if i = 3 then T else [] := ⟨_, rfl⟩
      rw [← heff] at HSUB HDIS HK HKO
      have HX2 := Lib.hid (show ∀ W, GrownX T w3.drew W → Rd W (.slice A1 E.length c1) (bytesV E) from fun W h => HX.out.1.keep fun b hb hlt => h.block b hlt (HX.out.2 b hb))
      obtain ⟨m, hm⟩ : ∃ m, m = k * B := ⟨_, rfl⟩
      have hmul : (k : Int) * (B : Int) = (m : Int) := by rw [hm]; exact (Int.natCast_mul _ _).symm
      have hm1600 : m ≤ 1600 := by
        have h1 : k * B ≤ 50 * 32 := Nat.mul_le_mul (by omega) hB
        omega
      have HMM := Lib.hid (show k * B = m from hm.symm)
      have HLE := Lib.hid (show 4 ≤ E.length ∧ E.length ≤ 5 + m / 7 by have := HEL.out; rw [HMM.out] at this; omega)
      have HB1 := Lib.hid hm1600
      have HMU := Lib.hid hmul
      have HGW := Lib.hid H3.out.grow
      have HNW := Lib.hid H3.out.new2
      clear ho3 ht3 hn3 HE1 HH hT heff hm hmul hm1600
      go_wp2
      refine wp_region_walkX 26 eff T HSUB.out HDIS.out (by kernel_rfl) (by kernel_rfl) (by kernel_rfl) ?_
      simp only [List.take_succ_cons, List.take_zero, List.drop_succ_cons, List.drop_zero]
      refine Walk3.val (G := Is (.slice A1 E.length c1)) (stays3_is _ _) rfl rfl (fun a w hm hd => ⟨wanted_plain rfl, st_move rfl (by rw [hm.outer 10 (by kernel_rfl)]; rfl)⟩) ?_
      refine Walk3.val (G := Is (.string ⟨E.toArray⟩)) (stays3_is _ _) rfl rfl (fun a w hm hd => ⟨wanted_plain rfl, st_str rfl (show IsB E _ _ by rw [show a.eval (.tmp 49) = _ from (hd.at_ 0 rfl rfl rfl rfl)]; exact HX2.out w hm.grow)⟩) ?_
      refine Walk3.val (G := Is (.pointer (some ⟨g2, 0, none⟩))) (stays3_is _ _) rfl rfl (fun a w hm hd => ⟨wanted_plain rfl, st_move rfl (by rw [hm.outer 6 (by kernel_rfl)]; rfl)⟩) ?_
      refine Walk3.call (G := IsB E) (fun i hi v w w' h hg => Rd.grown0 h (by rw [HKO.out i hi] at hg; exact hg.to0)) rfl 21 rfl (fun a w hm ha hd => ⟨wanted_plain rfl, _, ex_call1 Try.func21 (by kernel_rfl) (by kernel_rfl) rfl, by
        rw [show a.eval (.tmp 51) = _ from (hd.at_ 2 rfl rfl rfl rfl)]
        have hkeep : Wt w g2 v2 S := H3.out.two.keep (ha g2 (by rw [HK.out]; exact (HTM.out g2).2 (.inl rfl)) H3.out.two.lt) (fun b hb => ha b (by rw [HK.out]; exact (HTM.out b).2 (.inr hb)) (H3.out.two.row_lt b hb))
        refine (end_at g2 v2 S w hkeep HO.out.1 (by have := HSL.out; omega)).mono ?_
        rintro e w' ⟨u', rfl, ho', v2', _, hn'⟩
        rw [← HEE.out] at ho'
        exact ⟨u', rfl, ⟨hn'.os, hn'.tape, hn'.output, hn'.size, fun b hb hne => hn'.block b hb (fun e => hne (by rw [HK.out]; exact (HTM.out b).2 (.inl (List.mem_singleton.1 e)))) (fun e => hne (by rw [HK.out]; exact (HTM.out b).2 (.inr e.symm)))⟩, Rd.of_own ho'⟩
        ⟩) ?_
      refine Walk3.val (G := Is (.string ⟨E.toArray⟩)) (stays3_is _ _) rfl rfl (fun a w hm hd => ⟨wanted_plain rfl, st_str rfl (hd.at_ 3 rfl rfl rfl rfl)⟩) ?_
      refine Walk3.val (G := Is (.bool true)) (stays3_is _ _) rfl rfl (fun a w hm hd => ⟨wanted_plain rfl, st_eqs rfl (hd.at_ 1 rfl rfl rfl rfl) (hd.at_ 4 rfl rfl rfl rfl) rfl⟩) ?_
      refine Walk3.val (G := Is (.bool true)) (stays3_is _ _) rfl rfl (fun a w hm hd => ⟨wanted_plain rfl, st_move rfl (hd.at_ 5 rfl rfl rfl rfl)⟩) ?_
      refine Walk3.val (G := Is (.slice A1 E.length c1)) (stays3_is _ _) rfl rfl (fun a w hm hd => ⟨wanted_at rfl rfl (hd.at_ 6 rfl rfl rfl rfl), st_move rfl (by rw [hm.outer 10 (by kernel_rfl)]; rfl)⟩) ?_
      refine Walk3.val (G := Is (.int .i64 (E.length : Int))) (stays3_is _ _) rfl rfl (fun a w hm hd => ⟨wanted_at rfl rfl (hd.at_ 6 rfl rfl rfl rfl), st_lenV rfl (hd.at_ 7 rfl rfl rfl rfl)⟩) ?_
      refine Walk3.val (G := Is (.bool true)) (stays3_is _ _) rfl rfl (fun a w hm hd => ⟨wanted_at rfl rfl (hd.at_ 6 rfl rfl rfl rfl), st_geq rfl (hd.at_ 8 rfl rfl rfl rfl) rfl (by have := HLE.out; omega)⟩) ?_
      refine Walk3.val (G := Is (.bool true)) (stays3_is _ _) rfl rfl (fun a w hm hd => ⟨wanted_plain rfl, st_pick rfl (hd.at_ 6 rfl rfl rfl rfl) (hd.at_ 9 rfl rfl rfl rfl)⟩) ?_
      refine Walk3.val (G := Is (.bool true)) (stays3_is _ _) rfl rfl (fun a w hm hd => ⟨wanted_plain rfl, st_move rfl (hd.at_ 10 rfl rfl rfl rfl)⟩) ?_
      refine Walk3.val (G := Is (.slice A1 E.length c1)) (stays3_is _ _) rfl rfl (fun a w hm hd => ⟨wanted_at rfl rfl (hd.at_ 11 rfl rfl rfl rfl), st_move rfl (by rw [hm.outer 10 (by kernel_rfl)]; rfl)⟩) ?_
      refine Walk3.val (G := Is (.int .i64 (E.length : Int))) (stays3_is _ _) rfl rfl (fun a w hm hd => ⟨wanted_at rfl rfl (hd.at_ 11 rfl rfl rfl rfl), st_lenV rfl (hd.at_ 12 rfl rfl rfl rfl)⟩) ?_
      refine Walk3.val (G := Is (.slice A k c)) (stays3_is _ _) rfl rfl (fun a w hm hd => ⟨wanted_at rfl rfl (hd.at_ 11 rfl rfl rfl rfl), st_move rfl (by rw [hm.outer 0 (by kernel_rfl)]; rfl)⟩) ?_
      refine Walk3.val (G := Is (.int .i64 (k : Int))) (stays3_is _ _) rfl rfl (fun a w hm hd => ⟨wanted_at rfl rfl (hd.at_ 11 rfl rfl rfl rfl), st_lenI rfl (hd.at_ 14 rfl rfl rfl rfl)⟩) ?_
      refine Walk3.val (G := Is (.int .i64 (B : Int))) (stays3_is _ _) rfl rfl (fun a w hm hd => ⟨wanted_at rfl rfl (hd.at_ 11 rfl rfl rfl rfl), st_move rfl (by rw [hm.outer 1 (by kernel_rfl)]; rfl)⟩) ?_
      refine Walk3.val (G := Is (.int .i64 (m : Int))) (stays3_is _ _) rfl rfl (fun a w hm hd => ⟨wanted_at rfl rfl (hd.at_ 11 rfl rfl rfl rfl), st_muli rfl (hd.at_ 15 rfl rfl rfl rfl) (hd.at_ 16 rfl rfl rfl rfl) HMU.out (by have := HB1.out; omega)⟩) ?_
      refine Walk3.val (G := Is (.int .i64 ((m / 7 : Nat) : Int))) (stays3_is _ _) rfl rfl (fun a w hm hd => ⟨wanted_at rfl rfl (hd.at_ 11 rfl rfl rfl rfl), st_quo7 rfl (hd.at_ 17 rfl rfl rfl rfl) (by have := HB1.out; omega)⟩) ?_
      refine Walk3.val (G := Is (.int .i64 (5 + (m / 7 : Nat) : Int))) (stays3_is _ _) rfl rfl (fun a w hm hd => ⟨wanted_at rfl rfl (hd.at_ 11 rfl rfl rfl rfl), st_addi rfl rfl (hd.at_ 18 rfl rfl rfl rfl) rfl (by have := HB1.out; omega)⟩) ?_
      refine Walk3.val (G := Is (.bool true)) (stays3_is _ _) rfl rfl (fun a w hm hd => ⟨wanted_at rfl rfl (hd.at_ 11 rfl rfl rfl rfl), st_leq rfl (hd.at_ 13 rfl rfl rfl rfl) (hd.at_ 19 rfl rfl rfl rfl) (by have := HLE.out; omega)⟩) ?_
      refine Walk3.val (G := Is (.bool true)) (stays3_is _ _) rfl rfl (fun a w hm hd => ⟨wanted_plain rfl, st_pick rfl (hd.at_ 11 rfl rfl rfl rfl) (hd.at_ 20 rfl rfl rfl rfl)⟩) ?_
      refine Walk3.val (G := Is (.bool true)) (stays3_is _ _) rfl rfl (fun a w hm hd => ⟨wanted_plain rfl, st_move rfl (hd.at_ 21 rfl rfl rfl rfl)⟩) ?_
      refine Walk3.call (G := Is (.bool true)) (stays3_is _ _) rfl 10 rfl (fun a w hm ha hd => ⟨wanted_at rfl rfl (hd.at_ 22 rfl rfl rfl rfl), _, ex_call0 Try.func10 (by kernel_rfl) (by kernel_rfl) rfl, by
        refine (awake_any w).mono ?_
        rintro e w' ⟨rfl, hg⟩
        exact ⟨_, rfl, GrownX.of0 hg, rfl⟩
        ⟩) ?_
      refine Walk3.val (G := Is (.bool true)) (stays3_is _ _) rfl rfl (fun a w hm hd => ⟨wanted_plain rfl, st_pick rfl (hd.at_ 22 rfl rfl rfl rfl) (hd.at_ 23 rfl rfl rfl rfl)⟩) ?_
      refine Walk3.val (G := Is (.bool true)) (stays3_is _ _) rfl rfl (fun a w hm hd => ⟨wanted_plain rfl, st_assign rfl (hd.at_ 24 rfl rfl rfl rfl)⟩) ?_
      intro a9 V9 hm9 hall
      have f4 : a9.eval (.tmp 4) = .bool true := hall 25 _ _ rfl rfl
      have hgr : w.grownBy V9 none := ⟨hm9.grow.os.trans HGW.out.os, hm9.grow.tape.trans HGW.out.tape, hm9.grow.output.trans HGW.out.output, Nat.le_trans HGW.out.size hm9.grow.size, fun b hb _ => (hm9.grow.block b (Nat.lt_of_lt_of_le hb HGW.out.size) (fun e => by
        rcases (HTM.out b).1 e with e | e
        · have := HNW.out.1; omega
        · have := HNW.out.2 b e; omega)).trans (HGW.out.block b hb (by simp))⟩
      have hdf : a9.defers = [] := hm9.defers
      clear hall hm9
      obtain ⟨tm, df⟩ := a9
      simp only at hdf
      subst hdf
      have HG9 := Lib.hid hgr
      clear hgr
      unfold wpList
      go_wp2
      go_ret
      exact ⟨congrArg Ending.returned f4, HG9.out⟩
end Go.Proofs.Ytlmdjkahbejcdaa
