/-
  The law StreamNoughts, walked.
-/
import Derived.Test.YtmhpnddelebjdaaStrOps
namespace Go.Proofs.Ytmhpnddelebjdaa
open Go.RowKit

theorem noughts_at (key : List UInt8) (n : W32) (nonce : List UInt8) (K i : Nat) (h : i < K) : (xs key n nonce (List.replicate K 0)).getD i 0 = (blok key (n + BitVec.ofNat 32 (i / 64)) nonce).getD (i % 64) 0 := by
  rw [xs_getD _ _ _ _ _ (by rw [List.length_replicate]; exact h)]
  unfold ks
  have : (List.replicate K (0 : UInt8)).getD i 0 = 0 := by simp [h]
  rw [this, UInt8.zero_xor]
theorem num_add (n : W32) (q : Nat) : ((n.toNat : Int) + (q : Int)) % 4294967296 = ((n + BitVec.ofNat 32 q).toNat : Int) := by
  rw [BitVec.toNat_add, BitVec.toNat_ofNat]
  omega

set_option maxHeartbeats 8000000 in
theorem streamNoughts_walk (key : List UInt8) (hk : key.length = 32) (n : W32) (nonce : List UInt8) (hn : nonce.length = 12) (m : Nat) (hm16 : m < 65536) (w : World) :
    Calls Try.prog 9 #[.agg (bytesV key).toArray, .int .u32 (n.toNat : Int), .agg (bytesV nonce).toArray, .int .u16 (m : Int)] w (Awake w) := by
  have HK := Lib.hid hk
  have HN := Lib.hid hn
  have HKL := Lib.hid (show (bytesV key).length = 32 by rw [bytesV_len, hk])
  have HNL := Lib.hid (show (bytesV nonce).length = 12 by rw [bytesV_len, hn])
  generalize hG : w.heap.size = G
  have HG := Lib.hid hG
  obtain ⟨W0, hW0⟩ : ∃ W, (w.alloc (.cells (bytesV key).toArray 29)).alloc (.cells (bytesV nonce).toArray 30) = W := ⟨_, rfl⟩
  have R0 := Lib.hid (show Row W0 G 29 (bytesV key) by rw [← hW0]; exact (Row.newAt w _ (bytesV key) hG).alloc _)
  have R1 := Lib.hid (show Row W0 (G + 1) 30 (bytesV nonce) by rw [← hW0]; exact Row.newAt _ _ (bytesV nonce) (by simp [hG]))
  have HGR := Lib.hid (show w.grownBy W0 none by rw [← hW0]; exact grown_alloc (grown_alloc (grown_refl _ _) _) _)
  clear hk hn
  obtain ⟨K, hK⟩ : ∃ K, m % 300 = K := ⟨_, rfl⟩
  have hK1 : (m : Int) % 300 = (K : Int) := by omega
  have hK3 : K < 300 := by omega
  clear hK
  go_enter Try.func9, Try.ntmps9
  go_wp2
  rw [hK1]
  clear hG hW0 hK1
  refine wp_region_walk3 6 [] dis_nil (by kernel_rfl) (by kernel_rfl) (by kernel_rfl) ?_
  simp only [List.take_succ_cons, List.take_zero, List.drop_succ_cons, List.drop_zero]
  refine Walk.val (G := Is (.agg (bytesV key).toArray)) (stays_is _ _) rfl rfl (fun a w hm hd => ⟨wanted_plain rfl, _, ex_load_row rfl G 29 _ _ (by rw [hm.outer 4 (by kernel_rfl)]; rfl) (R0.out.grown0 hm.grow.none2) Try.underlying29 rfl (by rw [HKL.out]; kernel_rfl), rfl⟩) ?_
  refine Walk.val (G := Is (.int .u32 (n.toNat : Int))) (stays_is _ _) rfl rfl (fun a w hm hd => ⟨wanted_plain rfl, _, ex_move rfl, by rw [hm.outer 1 (by kernel_rfl)]; rfl⟩) ?_
  refine Walk.val (G := Is (.agg (bytesV nonce).toArray)) (stays_is _ _) rfl rfl (fun a w hm hd => ⟨wanted_plain rfl, _, ex_load_row rfl (G + 1) 30 _ _ (by rw [hm.outer 6 (by kernel_rfl)]; rfl) (R1.out.grown0 hm.grow.none2) Try.underlying30 rfl (by rw [HNL.out]; kernel_rfl), rfl⟩) ?_
  refine Walk.val (G := Is (.int .i64 (K : Int))) (stays_is _ _) rfl rfl (fun a w hm hd => ⟨wanted_plain rfl, _, ex_move rfl, by rw [hm.outer 9 (by kernel_rfl)]; rfl⟩) ?_
  refine Walk.makes (G := IsX (List.replicate K 0)) (fun _ _ _ _ _ h hg => lasts_x _ _ _ _ h hg) rfl rfl (fun a w hm _ hd => ⟨wanted_plain rfl, _, _, ex_make rfl (hd.at_ 3 rfl rfl rfl rfl) (hd.at_ 3 rfl rfl rfl rfl) (by omega), grown_alloc (grown_refl _ _) _, w.heap.size, by rw [List.length_replicate], Row.new w 5 _⟩) ?_
  refine Walk.call (G := IsX (xs key n nonce (List.replicate K 0))) (fun _ _ _ _ _ h hg => lasts_x _ _ _ _ h hg) rfl 16 rfl (fun a w hm _ hd => ⟨wanted_plain rfl, _, ex_call4 Try.func16 (by kernel_rfl) (by kernel_rfl) rfl, by
    rw [show a.eval (.tmp 16) = _ from hd.at_ 0 rfl rfl rfl rfl, show a.eval (.tmp 17) = _ from hd.at_ 1 rfl rfl rfl rfl, show a.eval (.tmp 18) = _ from hd.at_ 2 rfl rfl rfl rfl]
    have hx : IsX (List.replicate K 0) (a.eval (.tmp 20)) w := hd.at_ 4 rfl rfl rfl rfl
    have hl : (List.replicate K (0 : UInt8)).length ≤ 100000000000 := by rw [List.length_replicate]; omega
    exact xor_at key HK.out n nonce HN.out _ _ w (hx.rd hl) hl⟩) ?_
  intro a9 w7 hm7 hall
  have f21 : IsX (xs key n nonce (List.replicate K 0)) (a9.eval (.tmp 21)) w7 := hall 5 _ _ rfl rfl
  obtain ⟨gX, hv, hrow⟩ := f21
  rw [xs_len, List.length_replicate] at hv
  have hg7 : W0.grownBy w7 none := GrownX.none2 hm7.grow
  have hfr := hm7.frame
  simp only [List.take_succ_cons, List.take_zero, List.filterMap_cons, List.filterMap_nil, List.foldl_cons, List.foldl_nil] at hfr
  rw [hv] at hfr
  have R0' := Lib.hid (R0.out.grown0 hg7)
  have R1' := Lib.hid (R1.out.grown0 hg7)
  have RX := Lib.hid hrow
  have HGR' := Lib.hid (HGR.out.trans hg7)
  rw [hfr]
  clear hv hrow hg7 hfr R0 R1 HGR
  generalize a9.eval (.tmp 16) = e16
  generalize a9.eval (.tmp 17) = e17
  generalize a9.eval (.tmp 18) = e18
  generalize a9.eval (.tmp 19) = e19
  generalize a9.eval (.tmp 20) = e20
  clear hm7 hall
  simp only [Act.put, List.setIfInBounds_toArray, List.set_cons_succ, List.set_cons_zero]
  go_wp2
  go_loopw [24] (fun v W => ∃ i : Nat, i ≤ K ∧ v = .int .i64 i ∧ Row W G 29 (bytesV key) ∧ Row W (G + 1) 30 (bytesV nonce) ∧ Row W gX 5 (bytesV (xs key n nonce (List.replicate K 0))) ∧ w.grownBy W none) (fun v _ => K - (intOf v).toNat)
  case atStart => exact ⟨0, Nat.zero_le _, rfl, R0'.out, R1'.out, RX.out, HGR'.out⟩
  case round =>
    clear R0' R1' RX HGR'
    obtain ⟨i, hi, rfl, r0, r1, rx, hgr⟩ := hrel
    have R0 := Lib.hid r0
    have R1 := Lib.hid r1
    have RX := Lib.hid rx
    have HGR := Lib.hid hgr
    by_cases hlt : i < K
    · obtain ⟨q, hq⟩ : ∃ q, i / 64 = q := ⟨_, rfl⟩
      obtain ⟨j, hj⟩ : ∃ j, i % 64 = j := ⟨_, rfl⟩
      have hj64 : j < 64 := by omega
      have hq5 : q ≤ 5 := by omega
      have hdiv : (i : Int) / 64 = (q : Int) := by omega
      have hrem : (i : Int) % 64 = (j : Int) := by omega
      obtain ⟨y, hy⟩ : ∃ y, y = n + BitVec.ofNat 32 q := ⟨_, rfl⟩
      have hsum := num_add n q
      rw [← hy] at hsum
      have hxi := noughts_at key n nonce K i hlt
      rw [hq, hj, ← hy] at hxi
      have cx := rx.cell (bytesV_at _ i (by rw [xs_len, List.length_replicate]; exact hlt))
      rw [hxi] at cx
      have CX := Lib.hid cx
      have HB := Lib.hid (fun V => block_any key HK.out y nonce HN.out V)
      have HBL := Lib.hid (show (bytesV (blok key y nonce)).length = 64 by rw [bytesV_len, blok_len])
      have HBJ := Lib.hid (bytesV_at (blok key y nonce) j (by rw [blok_len]; exact hj64))
      have HO := Lib.hid (fun x hx => bytesV_one (blok key y nonce) x hx)
      generalize (blok key y nonce).getD j 0 = p at *
      have hdec : decide (i < K) = true := by simp; omega
      have HKK := Lib.hid (And.intro hi hlt)
      have hi300 : i ≤ 300 := by omega
      clear hq hj hy hxi cx r0 r1 rx hgr hlt
      go_wp2_with (first
        | refine wpList_load_row _ rfl _ 29 rfl G 29 (bytesV key) _ rfl R0.out Try.underlying29 rfl (by rw [HKL.out]; kernel_rfl) ?_
        | refine wpList_load_row _ rfl _ 30 rfl (G + 1) 30 (bytesV nonce) _ rfl R1.out Try.underlying30 rfl (by rw [HNL.out]; kernel_rfl) ?_)
      refine (HB.out wr).mono ?_
      rintro e w1 ⟨rfl, hg1⟩
      have HG1 := Lib.hid hg1
      clear hg1 HB
      generalize bytesV (blok key y nonce) = ys at *
      go_wp2_with (refine wpList_store_row _ rfl rfl _ _ 31 rfl w1.heap.size 31 (noughts8 64) ys rfl rfl (Row.new w1 31 (noughts8 64)) (by rw [HBL.out]; rfl) HO.out (by rw [HBL.out]; kernel_rfl) ?_; intro w2 hr2 hg2)
      have hgw : wr.grownBy w2 none := (grown_own (grown_alloc HG1.out _) hg2 HG1.out.size)
      have cb := hr2.cell HBJ.out
      have cx : w2.cell? ⟨gX, i, none⟩ = some (.int .u8 (p.toNat : Int)) := (World.cell?_of_block (hgw.block _ (World.block_lt_of_cell? wr _ CX.out) (by simp))).trans CX.out
      have R02 := Lib.hid (R0.out.grown0 hgw)
      have R12 := Lib.hid (R1.out.grown0 hgw)
      have RX2 := Lib.hid (RX.out.grown0 hgw)
      have HG2 := Lib.hid (HGR.out.trans hgw)
      have hiK : (i : Int) < (K : Int) := by have := HKK.out.2; omega
      have hjI : (j : Int) < 64 := by omega
      generalize w1.heap.size = gb at *
      generalize p.toNat = pn at *
      clear hr2 hg2 hgw hsum hdiv
      go_quiet (fail)
      go_wp2
      go_roundw
      case rel => exact ⟨i + 1, by have := HKK.out.2; omega, by go_num, R02.out, R12.out, RX2.out, grown_drewN HG2.out _⟩
      case measure => have := HKK.out.2; simp [intOf]; omega
    · have hdec : decide (i < K) = false := by simp; omega
      clear r0 r1 rx hgr hlt hi
      go_wp2_with (go_at_call 12; refine (awake_any _).mono ?_; rintro e w5 ⟨rfl, hg5⟩)
      go_ret
      exact ⟨rfl, HGR.out.trans hg5⟩
end Go.Proofs.Ytmhpnddelebjdaa
