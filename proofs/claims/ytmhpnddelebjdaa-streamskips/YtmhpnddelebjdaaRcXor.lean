/-
  The document's own Xor of layer 5 over this program.
-/
import Derived.Test.YtmhpnddelebjdaaRcBlock
namespace Go.Proofs.Ytmhpnddelebjdaa
open Go.RowKit

theorem xs_take (key : List UInt8) (n : W32) (nonce b : List UInt8) (i : Nat) (h : i < b.length) : bytesV ((xs key n nonce b).take (i + 1)) = bytesV ((xs key n nonce b).take i) ++ bytesV [b.getD i 0 ^^^ ks key n nonce i] := by
  rw [List.take_succ_eq_append_getElem (by rw [xs_len]; exact h), bytesV_app]
  congr 2
  have := xs_at key n nonce b i h
  rw [List.getElem?_eq_getElem (by rw [xs_len]; exact h)] at this
  injection this with this
  rw [this]

theorem num_word (n : W32) (q N : Nat) (hN : N = n.toNat + q) : N % 4294967296 = (n + BitVec.ofNat 32 q).toNat := by
  rw [BitVec.toNat_add, BitVec.toNat_ofNat, hN]
  omega

set_option maxHeartbeats 8000000 in
theorem rxorAll_any (v0 v2 v3 : Value) (key : List UInt8) (hk : key.length = 32) (n : W32) (nonce : List UInt8) (hn : nonce.length = 12) (b : List UInt8) (hb : b.length ≤ 1000) (w : World) (h0 : Rd w v0 (bytesV key)) (h2 : Rd w v2 (bytesV nonce)) (h3 : Rd w v3 (bytesV b)) :
    Calls Try.prog 17 #[v0, .int .i64 (n.toNat : Int), v2, v3] w (Out w (xs key n nonce b)) := by
  obtain ⟨m, hm⟩ : ∃ m, m = b.length := ⟨_, rfl⟩
  obtain ⟨A3, c3, rfl⟩ := h3.form
  rw [bytesV_len, ← hm] at h3 ⊢
  have HK := Lib.hid hk
  have HN := Lib.hid hn
  have H0 := Lib.hid h0
  have H2 := Lib.hid h2
  have H3 := Lib.hid h3
  have HM := Lib.hid hm
  have hm1 : m ≤ 1000 := by omega
  have hnlt := n.isLt
  clear hk hn h0 h2 h3 hm hb
  go_enter Try.func17, Try.ntmps17
  go_wp2
  go_loopw [9, 10, 11] (fun u x i W => ∃ k : Nat, k ≤ m ∧ i = .int .i64 k ∧ W.ownsRow w.heap.size 5 1 u k (bytesV ((xs key n nonce b).take k)) ∧ w.grownBy W none ∧ (∀ g, u.ownBlock = some g → g < W.heap.size) ∧
      (k % 64 ≠ 0 → Rd W x (bytesV (blok key (n + BitVec.ofNat 32 (k / 64)) nonce)) ∧ ∀ g, x.ownBlock = some g → u.ownBlock ≠ some g ∧ g < W.heap.size)) (fun _ _ i _ => m - (intOf i).toNat)
  case atStart => exact ⟨0, Nat.zero_le _, rfl, World.ownsRow_nil _ _ _ _, grown_refl _ _, (fun g hg => by cases hg), (fun h => absurd rfl h)⟩
  case round =>
    obtain ⟨k, hk, rfl, ho, hg, hu, hx⟩ := hrel
    by_cases hlt : k < m
    · obtain ⟨ad3, rfl, _⟩ := H3.out.cells (by intro e; have := congrArg List.length e; rw [bytesV_len, ← HM.out] at this; simp at this; omega)
      have HO := Lib.hid ho
      have HG := Lib.hid hg
      have HU := Lib.hid hu
      obtain ⟨j, hj⟩ : ∃ j, k % 64 = j := ⟨_, rfl⟩
      obtain ⟨q, hq⟩ : ∃ q, k / 64 = q := ⟨_, rfl⟩
      have hj64 : j < 64 := by omega
      have HT := Lib.hid (xs_take key n nonce b k (by rw [← HM.out]; exact hlt))
      have HKS := Lib.hid (show ks key n nonce k = (blok key (n + BitVec.ofNat 32 q) nonce).getD j 0 by unfold ks; rw [hj, hq])
      have HJ := Lib.hid hj
      have HQ := Lib.hid hq
      rw [hq, hj] at hx
      have HX := Lib.hid hx
      have hdec : decide (k < m) = true := by simp; omega
      have HKK := Lib.hid (And.intro hk hlt)
      have hq1 : q ≤ 1000 := by omega
      have hdiv : (k : Int) / 64 = (q : Int) := by omega
      have hrem : (k : Int) % 64 = (j : Int) := by omega
      clear ho hg hu hx hlt hj hq
      by_cases hz : j = 0
      case' pos =>
        have hz1 : ((k : Int) % 64 == 0) = true := by rw [hrem, hz]; rfl
        have hz2 : ((j : Int) == 0) = true := by rw [hz]; rfl
        have HZ := Lib.hid hz
        obtain ⟨y, hy⟩ : ∃ y, y = n + BitVec.ofNat 32 q := ⟨_, rfl⟩
        obtain ⟨N, hN⟩ : ∃ N, N = n.toNat + q := ⟨_, rfl⟩
        have hsum : (n.toNat : Int) + (q : Int) = (N : Int) := by omega
        have hNb : N ≤ 1000000000000 := by omega
        have HWD := Lib.hid (fun V => (show Calls Try.prog 19 #[.int .i64 (N : Int)] V fun e w' => e = .returned (.int .i64 (y.toNat : Int)) ∧ w' = V from (rword_any N hNb V).mono fun e w' h => ⟨by rw [h.1, hy, num_word n q N hN], h.2⟩))
        have HY := Lib.hid hy
        clear hy hN hz
        go_wp2_with fail
        refine (HWD.out wr).mono ?_
        rintro e w1 ⟨rfl, hw1⟩
        rw [hw1]
        clear hw1 w1 HWD
        go_wp2_with fail
        refine (rblock_any _ _ key HK.out y nonce HN.out wr (H0.out.grown0 HG.out) (H2.out.grown0 HG.out)).mono ?_
        rintro e w2 ⟨x2, rfl, hrx, hg2, hox⟩
        have hlb : (bytesV (blok key y nonce)).length = 64 := by rw [bytesV_len, blok_len]
        obtain ⟨Ax, cx, rfl⟩ := hrx.form
        rw [hlb] at hrx hox
        rw [hlb]
        rw [HY.out] at hrx
        have hnx : ∀ g, (Value.slice Ax 64 cx).ownBlock = some g → u9.ownBlock ≠ some g ∧ g < w2.heap.size := fun g hg => ⟨fun e => absurd (HU.out g e) (Nat.not_lt.2 (hox g hg).1), (hox g hg).2⟩
        have HO2 := Lib.hid (own_keepI HO.out hg2)
        have HG2 := Lib.hid (HG.out.trans hg2)
        have HU2 := Lib.hid (fun g hg => Nat.lt_of_lt_of_le (HU.out g hg) hg2.size)
        have HRX := Lib.hid hrx
        have HNX := Lib.hid hnx
        clear hrx hg2 hox hlb hnx HY hsum hNb
        go_wp2
        clear hz1 hz2 HZ
      case' neg =>
        have hz1 : ((k : Int) % 64 == 0) = false := by rw [hrem]; simp; omega
        have hz2 : ((j : Int) == 0) = false := by simp; omega
        obtain ⟨hrx, hnx⟩ := HX.out hz
        have hlb : (bytesV (blok key (n + BitVec.ofNat 32 q) nonce)).length = 64 := by rw [bytesV_len, blok_len]
        obtain ⟨Ax, cx, rfl⟩ := hrx.form
        rw [hlb] at hrx hnx
        rw [hlb] at HX
        rw [hlb]
        obtain ⟨w2, hw2⟩ : ∃ x, x = wr := ⟨_, rfl⟩
        subst hw2
        have HO2 := HO
        have HG2 := HG
        have HU2 := HU
        have HRX := Lib.hid hrx
        have HNX := Lib.hid hnx
        clear hrx hnx hlb hz
        go_wp2
        clear hz1 hz2
      all_goals
        obtain ⟨adx, rfl, _⟩ := HRX.out.cells (by intro e; have := congrArg List.length e; rw [bytesV_len, blok_len] at this; simp at this)
        have hcb := (H3.out.grown0 HG2.out).bytes k (by rw [← HM.out]; exact HKK.out.2)
        have hcx := HRX.out.bytes j (by rw [blok_len]; exact hj64)
        have HT2 := Lib.hid (show bytesV ((xs key n nonce b).take (k + 1)) = bytesV ((xs key n nonce b).take k) ++ bytesV [b.getD k 0 ^^^ (blok key (n + BitVec.ofNat 32 q) nonce).getD j 0] by rw [HT.out, HKS.out])
        generalize b.getD k 0 = p at *
        generalize (blok key (n + BitVec.ofNat 32 q) nonce).getD j 0 = r at *
        have HCB := Lib.hid (fun (W : World) (hW : w2.grownBy W none) => (show W.cell? (ad3.add k) = some (.int .u8 (p.toNat : Int)) from (World.cell?_of_block (hW.block _ (World.block_lt_of_cell? w2 _ hcb) (by simp))).trans hcb))
        have HCX := Lib.hid (fun (W : World) (hW : w2.grownBy W none) => (show W.cell? (adx.add j) = some (.int .u8 (r.toNat : Int)) from (World.cell?_of_block (hW.block _ (World.block_lt_of_cell? w2 _ hcx) (by simp))).trans hcx))
        clear hcb hcx
        refine wp_region_walk3 12 [] dis_nil (by kernel_rfl) (by kernel_rfl) (by kernel_rfl) ?_
        simp only [List.take_succ_cons, List.take_zero, List.drop_succ_cons, List.drop_zero]
        refine Walk.val (G := Is (u9)) (stays_is _ _) rfl rfl (fun a w hm hd => ⟨wanted_plain rfl, _, ex_move rfl, by rw [hm.outer 9 (by kernel_rfl)]; rfl⟩) ?_
        refine Walk.val (G := Is (.slice (some ad3) m c3)) (stays_is _ _) rfl rfl (fun a w hm hd => ⟨wanted_plain rfl, _, ex_move rfl, by rw [hm.outer 3 (by kernel_rfl)]; rfl⟩) ?_
        refine Walk.val (G := Is (.int .i64 (k : Int))) (stays_is _ _) rfl rfl (fun a w hm hd => ⟨wanted_plain rfl, _, ex_move rfl, by rw [hm.outer 11 (by kernel_rfl)]; rfl⟩) ?_
        refine Walk.val (G := Is (.pointer (some (ad3.add k)))) (stays_is _ _) rfl rfl (fun a w hm hd => ⟨wanted_plain rfl, _, ex_idxB rfl (hd.at_ 1 rfl rfl rfl rfl) (hd.at_ 2 rfl rfl rfl rfl) HKK.out.2, rfl⟩) ?_
        refine Walk.val (G := Is (.int .u8 (p.toNat : Int))) (stays_is _ _) rfl rfl (fun a w hm hd => ⟨wanted_plain rfl, _, ex_loadB rfl (hd.at_ 3 rfl rfl rfl rfl) (HCB.out w hm.grow.none2), rfl⟩) ?_
        refine Walk.val (G := Is (.slice (some adx) 64 cx)) (stays_is _ _) rfl rfl (fun a w hm hd => ⟨wanted_plain rfl, _, ex_move rfl, by rw [hm.outer 10 (by kernel_rfl)]; rfl⟩) ?_
        refine Walk.val (G := Is (.int .i64 (k : Int))) (stays_is _ _) rfl rfl (fun a w hm hd => ⟨wanted_plain rfl, _, ex_move rfl, by rw [hm.outer 11 (by kernel_rfl)]; rfl⟩) ?_
        refine Walk.val (G := Is (.int .i64 (j : Int))) (stays_is _ _) rfl rfl (fun a w hm hd => ⟨wanted_plain rfl, _, ex_remc j 64 rfl (by decide) rfl (hd.at_ 6 rfl rfl rfl rfl) HJ.out, rfl⟩) ?_
        refine Walk.val (G := Is (.pointer (some (adx.add j)))) (stays_is _ _) rfl rfl (fun a w hm hd => ⟨wanted_plain rfl, _, ex_idxB rfl (hd.at_ 5 rfl rfl rfl rfl) (hd.at_ 7 rfl rfl rfl rfl) hj64, rfl⟩) ?_
        refine Walk.val (G := Is (.int .u8 (r.toNat : Int))) (stays_is _ _) rfl rfl (fun a w hm hd => ⟨wanted_plain rfl, _, ex_loadB rfl (hd.at_ 8 rfl rfl rfl rfl) (HCX.out w hm.grow.none2), rfl⟩) ?_
        refine Walk.val (G := Is (.int .u8 ((p ^^^ r).toNat : Int))) (stays_is _ _) rfl rfl (fun a w hm hd => ⟨wanted_plain rfl, _, ex_xorB rfl (hd.at_ 4 rfl rfl rfl rfl) (hd.at_ 9 rfl rfl rfl rfl), rfl⟩) ?_
        refine Walk.makes (G := fun v W => Rd W v (bytesV [p ^^^ r])) (fun _ _ _ _ _ h hg => Rd.grown0 h hg) rfl rfl (fun a w hm _ hd => ⟨wanted_plain rfl, _, _, ex_build1B rfl (hd.at_ 10 rfl rfl rfl rfl), grown_alloc (grown_refl _ _) _, Rd.one w (byteV (p ^^^ r)) 5⟩) ?_
        intro a9 V hm9 hall
        have f29 : a9.eval (.tmp 29) = u9 := hall 0 _ _ rfl rfl
        have f40 : Rd V (a9.eval (.tmp 40)) (bytesV [p ^^^ r]) := hall 11 _ _ rfl rfl
        have hg9 : w2.grownBy V none := GrownX.none2 hm9.grow
        have HF := Lib.hid hm9.frame
        refine wpList_append_bytes _ rfl _ _ rfl w.heap.size _ k _ f29 (own_keepI HO2.out hg9) _ [p ^^^ r] rfl f40 (by have := HKK.out.2; simp; omega) (by have := (HG2.out.trans hg9).size; omega) ?_
        intro v' w' ho' hg' hv'
        rw [← HT2.out] at ho'
        have hux := HNX.out
        have huu := HU2.out
        have hs1 := hg9.size
        have hs2 := hg'.size
        have HO4 := Lib.hid (show w'.ownsRow w.heap.size 5 1 v' (k + 1) (bytesV ((xs key n nonce b).take (k + 1))) from ho')
        have HG4 := Lib.hid (grown_app (HG2.out.trans hg9) (own_keepI HO2.out hg9) hg')
        have HU4 := Lib.hid (show ∀ g, v'.ownBlock = some g → g < w'.heap.size from fun g hg => by
          rcases ho'.2 with ⟨rfl, _⟩ | ⟨gg, cc, cur, rfl, _, hcells, _⟩
          · cases hg
          · cases hg; exact (Array.getElem?_eq_some_iff.1 hcells).1)
        have HX4 := Lib.hid (show Rd w' (.slice (some adx) 64 cx) (bytesV (blok key (n + BitVec.ofNat 32 q) nonce)) ∧ ∀ g, (Value.slice (some adx) 64 cx).ownBlock = some g → v'.ownBlock ≠ some g ∧ g < w'.heap.size from
          ⟨(HRX.out.grown0 hg9).grown hg' (fun g hg e => (hux g hg).1 e.symm), fun g hg => ⟨fun e => by
            rcases hv' with h | h
            · exact (hux g hg).1 (h ▸ e)
            · rw [h] at e
              cases e
              have := (hux _ hg).2
              omega, by have := (hux g hg).2; omega⟩⟩)
        rw [HF.out]
        simp only [List.take_succ_cons, List.take_zero, List.filterMap_cons, List.filterMap_nil, List.foldl_cons, List.foldl_nil]
        clear f29 f40 hg9 HF ho' hg' hv' hux huu hs1 hs2
        generalize a9.eval (.tmp 29) = e29
        generalize a9.eval (.tmp 30) = e30
        generalize a9.eval (.tmp 31) = e31
        generalize a9.eval (.tmp 32) = e32
        generalize a9.eval (.tmp 33) = e33
        generalize a9.eval (.tmp 34) = e34
        generalize a9.eval (.tmp 35) = e35
        generalize a9.eval (.tmp 36) = e36
        generalize a9.eval (.tmp 37) = e37
        generalize a9.eval (.tmp 38) = e38
        generalize a9.eval (.tmp 39) = e39
        generalize a9.eval (.tmp 40) = e40
        clear hm9 hall
        simp only [Act.put, List.setIfInBounds_toArray, List.set_cons_succ, List.set_cons_zero]
        go_wp2
        go_roundw
        case rel =>
          refine ⟨k + 1, by have := HKK.out.2; omega, by go_num, HO4.out, HG4.out, HU4.out, fun hne => ?_⟩
          have h1 := HJ.out
          have h2 := HQ.out
          rw [show (k + 1) / 64 = q by omega]
          exact HX4.out
        case measure => have := HKK.out.2; simp [intOf]; omega
    · have hkm : (xs key n nonce b).take k = xs key n nonce b := List.take_of_length_le (by rw [xs_len, ← HM.out]; omega)
      rw [hkm] at ho
      have HO := Lib.hid ho
      have HG := Lib.hid hg
      have hdec : decide (k < m) = false := by simp; omega
      clear hkm ho hg hu hx hlt hk
      go_wp2
      go_ret
      exact ⟨_, rfl, Rd.of_own HO.out, HG.out, fun b hb => by
        rcases HO.out.2 with ⟨rfl, _⟩ | ⟨gg, cc, cur, rfl, hbase, hcells, _⟩
        · cases hb
        · cases hb; exact ⟨hbase, (Array.getElem?_eq_some_iff.1 hcells).1⟩⟩
end Go.Proofs.Ytmhpnddelebjdaa
