/-
  The document's own words of bytes, of layer 5, over this program.
-/
import Derived.Test.YtmhpnddelebjdaaRcOps
namespace Go.Proofs.Ytmhpnddelebjdaa
open Go.RowKit

theorem wn_app (a b : List W32) : wn (a ++ b) = wn a ++ wn b := by simp [wn]
theorem Rd.bytes {w : World} {ad : Addr} {n c : Nat} {b : List UInt8} (h : Rd w (.slice (some ad) n c) (bytesV b)) (j : Nat) (hj : j < b.length) : w.cell? (ad.add j) = some (.int .u8 ((b.getD j 0).toNat : Int)) := by
  obtain ⟨ad', e, hc⟩ := h.cells (by intro e; have := congrArg List.length e; rw [bytesV_len] at this; simp at this; subst this; simp at hj)
  injection e with e
  subst e
  exact hc j _ (bytesV_at b j hj)
theorem Rd.drew {w : World} {v : Value} {xs : List Value} (h : Rd w v xs) : Rd w.drew v xs := h

theorem own_keepI {w w' : World} {base n : Nat} {e : TypeId} {v : Value} {xs : List Value} (h : w.ownsRow base e 1 v n xs) (hg : w.grownBy w' none) : w'.ownsRow base e 1 v n xs := h.kept hg (Classical.em _)
/-- An append onto a row of the call's own turns nothing old. -/
theorem grown_app {w W W' : World} {n : Nat} {e : TypeId} {v : Value} {xs : List Value} (h : w.grownBy W none) (ho : W.ownsRow w.heap.size e 1 v n xs) (k : W.grownBy W' v.ownBlock) : w.grownBy W' none :=
  grown_new h k (fun b hv => by
    rcases ho.2 with ⟨rfl, _⟩ | ⟨g, cap, cur, rfl, hg, _⟩
    · cases hv
    · cases hv; exact hg)

set_option maxHeartbeats 4000000 in
theorem rwords_any (v : Value) (b : List UInt8) (Q : Nat) (hb : b.length = 4 * Q) (hQ : 0 < Q) (hQ8 : Q ≤ 8) (w : World) (hr : Rd w v (bytesV b)) :
    Calls Try.prog 25 #[v] w (OutI w (wn (lewords b Q))) := by
  obtain ⟨n, hn⟩ : ∃ n, n = b.length := ⟨_, rfl⟩
  obtain ⟨A, c, rfl⟩ := hr.form
  rw [bytesV_len, ← hn] at hr ⊢
  obtain ⟨ad, rfl, _⟩ := hr.cells (by intro e; have := congrArg List.length e; rw [bytesV_len] at this; simp at this; subst this; simp at hb; omega)
  have HR := Lib.hid hr
  have HB := Lib.hid hb
  have HN := Lib.hid hn
  have hn32 : n ≤ 32 := by omega
  clear hr hb hn
  go_enter Try.func25, Try.ntmps25
  go_wp2
  go_loopw [3, 4] (fun u i W => ∃ q p : Nat, q ≤ Q ∧ p = 4 * q ∧ i = .int .i64 p ∧ W.ownsRow w.heap.size 3 1 u q (intsV (wn (lewords b q))) ∧ w.grownBy W none) (fun _ i _ => 32 - (intOf i).toNat)
  case atStart => exact ⟨0, 0, Nat.zero_le _, rfl, rfl, World.ownsRow_nil _ _ _ _, grown_refl _ _⟩
  case round =>
    obtain ⟨q, p, hq, hp, rfl, ho, hg⟩ := hrel
    have HO := Lib.hid ho
    have HG := Lib.hid hg
    have HP := Lib.hid (And.intro hq hp)
    have hp32 : p ≤ 32 := by omega
    by_cases hlt : q < Q
    · have hin : p + 3 < n := by have := HB.out; have := HN.out; omega
      have hr1 := HR.out.grown0 hg
      have c0 := hr1.bytes p (by have := HN.out; omega)
      have c1 := hr1.bytes (p + 1) (by have := HN.out; omega)
      have c2 := hr1.bytes (p + 2) (by have := HN.out; omega)
      have c3 := hr1.bytes (p + 3) (by have := HN.out; omega)
      have hle : le4N b p = (b.getD p 0).toNat + (b.getD (p + 1) 0).toNat * 256 + (b.getD (p + 2) 0).toNat * 65536 + (b.getD (p + 3) 0).toNat * 16777216 := rfl
      have b0 := UInt8.toNat_lt (b.getD p 0)
      have b1 := UInt8.toNat_lt (b.getD (p + 1) 0)
      have b2 := UInt8.toNat_lt (b.getD (p + 2) 0)
      have b3 := UInt8.toNat_lt (b.getD (p + 3) 0)
      generalize (b.getD p 0).toNat = z0 at *
      generalize (b.getD (p + 1) 0).toNat = z1 at *
      generalize (b.getD (p + 2) 0).toNat = z2 at *
      generalize (b.getD (p + 3) 0).toNat = z3 at *
      obtain ⟨z, hz⟩ : ∃ z, z = (le4 b p).toNat := ⟨_, rfl⟩
      rw [le4_nat, hle] at hz
      obtain ⟨p1, hp1⟩ : ∃ x, p + 1 = x := ⟨_, rfl⟩
      obtain ⟨p2, hp2⟩ : ∃ x, p + 2 = x := ⟨_, rfl⟩
      obtain ⟨p3, hp3⟩ : ∃ x, p + 3 = x := ⟨_, rfl⟩
      rw [hp1] at c1
      rw [hp2] at c2
      rw [hp3] at c3
      obtain ⟨m1, hm1⟩ : ∃ x, z1 * 256 = x := ⟨_, rfl⟩
      obtain ⟨m2, hm2⟩ : ∃ x, z2 * 65536 = x := ⟨_, rfl⟩
      obtain ⟨m3, hm3⟩ : ∃ x, z3 * 16777216 = x := ⟨_, rfl⟩
      obtain ⟨s1, hs1⟩ : ∃ x, z0 + m1 = x := ⟨_, rfl⟩
      obtain ⟨s2, hs2⟩ : ∃ x, s1 + m2 = x := ⟨_, rfl⟩
      have HP1 := Lib.hid hp1
      have HP2 := Lib.hid hp2
      have HP3 := Lib.hid hp3
      have HM1 := Lib.hid hm1
      have HM2 := Lib.hid hm2
      have HM3 := Lib.hid hm3
      have HS1 := Lib.hid hs1
      have HS2 := Lib.hid hs2
      have HS3 := Lib.hid (show s2 + m3 = z by omega)
      have HC0 := Lib.hid (fun (W : World) (hW : wr.grownBy W none) => (show W.cell? (ad.add p) = some (.int .u8 (z0 : Int)) from (World.cell?_of_block (hW.block _ (World.block_lt_of_cell? wr _ c0) (by simp))).trans c0))
      have HC1 := Lib.hid (fun (W : World) (hW : wr.grownBy W none) => (show W.cell? (ad.add p1) = some (.int .u8 (z1 : Int)) from (World.cell?_of_block (hW.block _ (World.block_lt_of_cell? wr _ c1) (by simp))).trans c1))
      have HC2 := Lib.hid (fun (W : World) (hW : wr.grownBy W none) => (show W.cell? (ad.add p2) = some (.int .u8 (z2 : Int)) from (World.cell?_of_block (hW.block _ (World.block_lt_of_cell? wr _ c2) (by simp))).trans c2))
      have HC3 := Lib.hid (fun (W : World) (hW : wr.grownBy W none) => (show W.cell? (ad.add p3) = some (.int .u8 (z3 : Int)) from (World.cell?_of_block (hW.block _ (World.block_lt_of_cell? wr _ c3) (by simp))).trans c3))
      have HZ := Lib.hid (show intsV (wn (lewords b (q + 1))) = intsV (wn (lewords b q)) ++ intsV [z] by
        rw [lewords_succ, wn_app, intsV_app, show wn [le4 b (4 * q)] = [(le4 b (4 * q)).toNat] from rfl, ← HP.out.2, le4_nat, hle, hz])
      have hb1 : p1 < n := by omega
      have hb2 : p2 < n := by omega
      have hb3 : p3 < n := by omega
      have hb4 : m1 ≤ 65280 := by omega
      have hb5 : m2 ≤ 16711680 := by omega
      have hb6 : m3 ≤ 4278190080 := by omega
      have hb7 : s1 ≤ 65535 := by omega
      have hb8 : s2 ≤ 16777215 := by omega
      have hb9 : z ≤ 4294967295 := by omega
      clear hle hz ho hg hr1 hq hp hp1 hp2 hp3 hm1 hm2 hm3 hs1 hs2 c0 c1 c2 c3
      go_wp2
      refine wp_region_walk3 31 [] dis_nil (by kernel_rfl) (by kernel_rfl) (by kernel_rfl) ?_
      simp only [List.take_succ_cons, List.take_zero, List.drop_succ_cons, List.drop_zero]
      refine Walk.val (G := Is (u3)) (stays_is _ _) rfl rfl (fun a w hm hd => ⟨wanted_plain rfl, _, ex_move rfl, by rw [hm.outer 3 (by kernel_rfl)]; rfl⟩) ?_
      refine Walk.val (G := Is (.slice (some ad) n c)) (stays_is _ _) rfl rfl (fun a w hm hd => ⟨wanted_plain rfl, _, ex_move rfl, by rw [hm.outer 0 (by kernel_rfl)]; rfl⟩) ?_
      refine Walk.val (G := Is (.int .i64 (p : Int))) (stays_is _ _) rfl rfl (fun a w hm hd => ⟨wanted_plain rfl, _, ex_move rfl, by rw [hm.outer 4 (by kernel_rfl)]; rfl⟩) ?_
      refine Walk.val (G := Is (.pointer (some (ad.add p)))) (stays_is _ _) rfl rfl (fun a w hm hd => ⟨wanted_plain rfl, _, ex_idxB rfl (hd.at_ 1 rfl rfl rfl rfl) (hd.at_ 2 rfl rfl rfl rfl) (by omega), rfl⟩) ?_
      refine Walk.val (G := Is (.int .u8 (z0 : Int))) (stays_is _ _) rfl rfl (fun a w hm hd => ⟨wanted_plain rfl, _, ex_loadB rfl (hd.at_ 3 rfl rfl rfl rfl) (HC0.out w hm.grow.none2), rfl⟩) ?_
      refine Walk.val (G := Is (.int .i64 (z0 : Int))) (stays_is _ _) rfl rfl (fun a w hm hd => ⟨wanted_plain rfl, _, ex_convB rfl (hd.at_ 4 rfl rfl rfl rfl) b0, rfl⟩) ?_
      refine Walk.val (G := Is (.slice (some ad) n c)) (stays_is _ _) rfl rfl (fun a w hm hd => ⟨wanted_plain rfl, _, ex_move rfl, by rw [hm.outer 0 (by kernel_rfl)]; rfl⟩) ?_
      refine Walk.val (G := Is (.int .i64 (p : Int))) (stays_is _ _) rfl rfl (fun a w hm hd => ⟨wanted_plain rfl, _, ex_move rfl, by rw [hm.outer 4 (by kernel_rfl)]; rfl⟩) ?_
      refine Walk.val (G := Is (.int .i64 (p1 : Int))) (stays_is _ _) rfl rfl (fun a w hm hd => ⟨wanted_plain rfl, _, ex_addc p1 1 rfl rfl (hd.at_ 7 rfl rfl rfl rfl) HP1.out (by omega), rfl⟩) ?_
      refine Walk.val (G := Is (.pointer (some (ad.add p1)))) (stays_is _ _) rfl rfl (fun a w hm hd => ⟨wanted_plain rfl, _, ex_idxB rfl (hd.at_ 6 rfl rfl rfl rfl) (hd.at_ 8 rfl rfl rfl rfl) (by omega), rfl⟩) ?_
      refine Walk.val (G := Is (.int .u8 (z1 : Int))) (stays_is _ _) rfl rfl (fun a w hm hd => ⟨wanted_plain rfl, _, ex_loadB rfl (hd.at_ 9 rfl rfl rfl rfl) (HC1.out w hm.grow.none2), rfl⟩) ?_
      refine Walk.val (G := Is (.int .i64 (z1 : Int))) (stays_is _ _) rfl rfl (fun a w hm hd => ⟨wanted_plain rfl, _, ex_convB rfl (hd.at_ 10 rfl rfl rfl rfl) b1, rfl⟩) ?_
      refine Walk.val (G := Is (.int .i64 (m1 : Int))) (stays_is _ _) rfl rfl (fun a w hm hd => ⟨wanted_plain rfl, _, ex_mulc m1 256 rfl rfl (hd.at_ 11 rfl rfl rfl rfl) HM1.out (by omega), rfl⟩) ?_
      refine Walk.val (G := Is (.int .i64 (s1 : Int))) (stays_is _ _) rfl rfl (fun a w hm hd => ⟨wanted_plain rfl, _, ex_addn s1 rfl (hd.at_ 5 rfl rfl rfl rfl) (hd.at_ 12 rfl rfl rfl rfl) HS1.out (by omega), rfl⟩) ?_
      refine Walk.val (G := Is (.slice (some ad) n c)) (stays_is _ _) rfl rfl (fun a w hm hd => ⟨wanted_plain rfl, _, ex_move rfl, by rw [hm.outer 0 (by kernel_rfl)]; rfl⟩) ?_
      refine Walk.val (G := Is (.int .i64 (p : Int))) (stays_is _ _) rfl rfl (fun a w hm hd => ⟨wanted_plain rfl, _, ex_move rfl, by rw [hm.outer 4 (by kernel_rfl)]; rfl⟩) ?_
      refine Walk.val (G := Is (.int .i64 (p2 : Int))) (stays_is _ _) rfl rfl (fun a w hm hd => ⟨wanted_plain rfl, _, ex_addc p2 2 rfl rfl (hd.at_ 15 rfl rfl rfl rfl) HP2.out (by omega), rfl⟩) ?_
      refine Walk.val (G := Is (.pointer (some (ad.add p2)))) (stays_is _ _) rfl rfl (fun a w hm hd => ⟨wanted_plain rfl, _, ex_idxB rfl (hd.at_ 14 rfl rfl rfl rfl) (hd.at_ 16 rfl rfl rfl rfl) (by omega), rfl⟩) ?_
      refine Walk.val (G := Is (.int .u8 (z2 : Int))) (stays_is _ _) rfl rfl (fun a w hm hd => ⟨wanted_plain rfl, _, ex_loadB rfl (hd.at_ 17 rfl rfl rfl rfl) (HC2.out w hm.grow.none2), rfl⟩) ?_
      refine Walk.val (G := Is (.int .i64 (z2 : Int))) (stays_is _ _) rfl rfl (fun a w hm hd => ⟨wanted_plain rfl, _, ex_convB rfl (hd.at_ 18 rfl rfl rfl rfl) b2, rfl⟩) ?_
      refine Walk.val (G := Is (.int .i64 (m2 : Int))) (stays_is _ _) rfl rfl (fun a w hm hd => ⟨wanted_plain rfl, _, ex_mulc m2 65536 rfl rfl (hd.at_ 19 rfl rfl rfl rfl) HM2.out (by omega), rfl⟩) ?_
      refine Walk.val (G := Is (.int .i64 (s2 : Int))) (stays_is _ _) rfl rfl (fun a w hm hd => ⟨wanted_plain rfl, _, ex_addn s2 rfl (hd.at_ 13 rfl rfl rfl rfl) (hd.at_ 20 rfl rfl rfl rfl) HS2.out (by omega), rfl⟩) ?_
      refine Walk.val (G := Is (.slice (some ad) n c)) (stays_is _ _) rfl rfl (fun a w hm hd => ⟨wanted_plain rfl, _, ex_move rfl, by rw [hm.outer 0 (by kernel_rfl)]; rfl⟩) ?_
      refine Walk.val (G := Is (.int .i64 (p : Int))) (stays_is _ _) rfl rfl (fun a w hm hd => ⟨wanted_plain rfl, _, ex_move rfl, by rw [hm.outer 4 (by kernel_rfl)]; rfl⟩) ?_
      refine Walk.val (G := Is (.int .i64 (p3 : Int))) (stays_is _ _) rfl rfl (fun a w hm hd => ⟨wanted_plain rfl, _, ex_addc p3 3 rfl rfl (hd.at_ 23 rfl rfl rfl rfl) HP3.out (by omega), rfl⟩) ?_
      refine Walk.val (G := Is (.pointer (some (ad.add p3)))) (stays_is _ _) rfl rfl (fun a w hm hd => ⟨wanted_plain rfl, _, ex_idxB rfl (hd.at_ 22 rfl rfl rfl rfl) (hd.at_ 24 rfl rfl rfl rfl) (by omega), rfl⟩) ?_
      refine Walk.val (G := Is (.int .u8 (z3 : Int))) (stays_is _ _) rfl rfl (fun a w hm hd => ⟨wanted_plain rfl, _, ex_loadB rfl (hd.at_ 25 rfl rfl rfl rfl) (HC3.out w hm.grow.none2), rfl⟩) ?_
      refine Walk.val (G := Is (.int .i64 (z3 : Int))) (stays_is _ _) rfl rfl (fun a w hm hd => ⟨wanted_plain rfl, _, ex_convB rfl (hd.at_ 26 rfl rfl rfl rfl) b3, rfl⟩) ?_
      refine Walk.val (G := Is (.int .i64 (m3 : Int))) (stays_is _ _) rfl rfl (fun a w hm hd => ⟨wanted_plain rfl, _, ex_mulc m3 16777216 rfl rfl (hd.at_ 27 rfl rfl rfl rfl) HM3.out (by omega), rfl⟩) ?_
      refine Walk.val (G := Is (.int .i64 (z : Int))) (stays_is _ _) rfl rfl (fun a w hm hd => ⟨wanted_plain rfl, _, ex_addn z rfl (hd.at_ 21 rfl rfl rfl rfl) (hd.at_ 28 rfl rfl rfl rfl) HS3.out (by omega), rfl⟩) ?_
      refine Walk.makes (G := fun v W => Rd W v (intsV [z])) (fun _ _ _ _ _ h hg => Rd.grown0 h hg) rfl rfl (fun a w hm _ hd => ⟨wanted_plain rfl, _, _, ex_build1 (z := z) rfl (hd.at_ 29 rfl rfl rfl rfl), grown_alloc (grown_refl _ _) _, Rd.one w (intV z) 3⟩) ?_
      intro a9 V hm9 hall
      have f12 : a9.eval (.tmp 12) = u3 := hall 0 _ _ rfl rfl
      have f42 : Rd V (a9.eval (.tmp 42)) (intsV [z]) := hall 30 _ _ rfl rfl
      have hg9 : wr.grownBy V none := GrownX.none2 hm9.grow
      have HF := Lib.hid hm9.frame
      refine wpList_append_ints _ rfl _ _ rfl w.heap.size _ q _ f12 (own_keepI HO.out hg9) _ [z] rfl f42 (by have := HP.out.1; simp; omega) (by have := (HG.out.trans hg9).size; omega) ?_
      intro v' w' ho' hg' _
      rw [← HZ.out] at ho'
      have HO2 := Lib.hid ho'
      have HG2 := Lib.hid (grown_app (HG.out.trans hg9) (own_keepI HO.out hg9) hg')
      rw [HF.out]
      simp only [List.take_succ_cons, List.take_zero, List.filterMap_cons, List.filterMap_nil, List.foldl_cons, List.foldl_nil]
      clear f12 f42 hg9 HF ho' hg'
      generalize a9.eval (.tmp 12) = e12
      generalize a9.eval (.tmp 13) = e13
      generalize a9.eval (.tmp 14) = e14
      generalize a9.eval (.tmp 15) = e15
      generalize a9.eval (.tmp 16) = e16
      generalize a9.eval (.tmp 17) = e17
      generalize a9.eval (.tmp 18) = e18
      generalize a9.eval (.tmp 19) = e19
      generalize a9.eval (.tmp 20) = e20
      generalize a9.eval (.tmp 21) = e21
      generalize a9.eval (.tmp 22) = e22
      generalize a9.eval (.tmp 23) = e23
      generalize a9.eval (.tmp 24) = e24
      generalize a9.eval (.tmp 25) = e25
      generalize a9.eval (.tmp 26) = e26
      generalize a9.eval (.tmp 27) = e27
      generalize a9.eval (.tmp 28) = e28
      generalize a9.eval (.tmp 29) = e29
      generalize a9.eval (.tmp 30) = e30
      generalize a9.eval (.tmp 31) = e31
      generalize a9.eval (.tmp 32) = e32
      generalize a9.eval (.tmp 33) = e33
      generalize a9.eval (.tmp 34) = e34
      generalize a9.eval (.tmp 35) = e35
      generalize a9.eval (.tmp 36) = e36
      generalize a9.eval (.tmp 37) = e37
      generalize a9.eval (.tmp 38) = e38
      generalize a9.eval (.tmp 39) = e39
      generalize a9.eval (.tmp 40) = e40
      generalize a9.eval (.tmp 41) = e41
      generalize a9.eval (.tmp 42) = e42
      clear hm9 hall
      simp only [Act.put, List.setIfInBounds_toArray, List.set_cons_succ, List.set_cons_zero]
      go_wp2
      go_roundw
      case rel => exact ⟨q + 1, p + 4, by omega, by have := HP.out.2; omega, by go_num, HO2.out, HG2.out⟩
      case measure => simp [intOf]; omega
    · have hout : ¬ p + 3 < n := by have := HB.out; have := HN.out; omega
      obtain rfl : q = Q := by omega
      clear ho hg hq hp
      go_wp2
      go_ret
      exact ⟨_, rfl, Rd.of_own HO.out, HG.out⟩
end Go.Proofs.Ytmhpnddelebjdaa
