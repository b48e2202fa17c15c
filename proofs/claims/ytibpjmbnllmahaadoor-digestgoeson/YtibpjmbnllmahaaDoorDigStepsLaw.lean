/-
  The walk of the law DigestSteps.
-/
import Derived.Test.YtibpjmbnllmahaaDoorDigStepOps
import Derived.BigQuiet
namespace Go.Proofs.YtibpjmbnllmahaaDoor
open Go.RowKit

theorem runB_step (M : List UInt8) (k : Nat) (h : 64 * k + 64 ≤ M.length) : runB start (M.take (64 * (k + 1))) = blk (runB start (M.take (64 * k))) ((M.drop (64 * k)).take 64) := by
  have e : M.take (64 * (k + 1)) = M.take (64 * k) ++ (M.drop (64 * k)).take 64 := by rw [show 64 * (k + 1) = 64 * k + 64 by omega, List.take_add]
  rw [e, runB_append _ _ _ (by rw [List.length_take]; omega), runB_one _ _ (by rw [List.length_take, List.length_drop]; omega)]

set_option maxHeartbeats 4000000 in
theorem digestSteps_walk (A : Option Addr) (n c : Nat) (l : List UInt8) (w : World) (hT : Tab w) (hr : Rd w (.slice A n c) (bytesV l)) :
    Calls Tryd.prog 7 #[.slice A n c] w (Awake w) := by
  have HR := Lib.hid hr
  have HT := Lib.hid hT
  have hl := hr.len.1
  rw [bytesV_len] at hl
  clear hr hT
  by_cases h : 300 < n
  · have hb : decide (300 < (n : Int)) = true := by simp; omega
    clear hl
    go_enter Tryd.func7, Tryd.ntmps7
    go_wp2_with fail
    refine (awake_any _ HT.out).mono ?_
    rintro e w1 ⟨rfl, hg1⟩
    go_wp2
    go_ret
    exact ⟨rfl, hg1⟩
  · have hb : decide (300 < (n : Int)) = false := by simp; omega
    have HL := Lib.hid (And.intro hl h)
    clear h
    go_enter Tryd.func7, Tryd.ntmps7
    go_wp2_with (at_builtin; refine wpList_append_bytes _ rfl _ _ rfl w.heap.size _ 0 [] rfl (own_empty w _ (Nat.le_refl _)) _ l rfl (HR.out.alloc _) ?_ ?_ ?_)
    · have := HL.out; omega
    · simp
    intro v1 w1 ho1 hg1 hat1
    have hgw1 : w.grownBy w1 none := grown_new (grown_alloc (grown_refl _ _) _) hg1 (fun b hb => by simp [Value.ownBlock] at hb; omega)
    clear hg1 hat1
    go_wp2_with fail
    rw [← hl]
    refine (pad_any l.length (by have := HL.out; omega) _).mono ?_
    rintro e w2 ⟨u, rfl, hru, hg2, hub⟩
    have ho2 := ho1.kept hg2 (by cases v1.ownBlock <;> simp)
    have hpl := pad_len l.length
    have hpz := padZ_lt l.length
    have hpw := pad_whole l.length
    have HPL := Lib.hid (And.intro hpl (And.intro hpz hpw))
    have hgw2 := hgw1.trans hg2
    clear ho1 hub hpl hpz hpw hgw1 hg2
    have hsha : sha l = told (runB start (l ++ pad l.length)) := rfl
    generalize pad l.length = P at *
    have HRU := Lib.hid hru
    obtain ⟨A2, c2, rfl⟩ := hru.form
    clear hru
    go_wp2_with (at_builtin; refine wpList_append_bytes _ rfl _ _ rfl w.heap.size _ _ _ rfl ho2 _ P rfl HRU.out ?_ ?_ ?_)
    · have := HL.out; have := HPL.out; omega
    · exact hgw2.size
    intro v3 w3 ho3 hg3 hat3
    have hgw3 : w.grownBy w3 none := grown_new hgw2 hg3 (fun b hb => (ho2.lt b hb).1)
    have hr3 : Rd w3 v3 (bytesV (l ++ P)) := by
      have := Rd.of_own ho3
      simpa [bytesV_app] using this
    have hb3 : ∀ b, v3.ownBlock = some b → b < w3.heap.size := fun b hb => (ho3.lt b hb).2
    have hML : (l ++ P).length = l.length + P.length := List.length_append
    have HML := Lib.hid hML
    have HRM := Lib.hid hr3
    have HGW := Lib.hid hgw3
    have HB3 := Lib.hid hb3
    clear hg3 hat3 ho2 ho3 hgw2 hgw3 hr3 hb3 hML
    have HSHA := Lib.hid hsha
    clear hsha
    generalize hM : l ++ P = M at *
    have HM := Lib.hid hM
    clear hM
    go_wp2_with fail
    refine (start_any _).mono ?_
    rintro e w4 ⟨rfl, hg4⟩
    have hlt4 : w3.heap.size ≤ w4.heap.size := hg4.size
    have HB4 := Lib.hid (fun b hb => Nat.lt_of_lt_of_le (HB3.out b hb) hlt4)
    have HRM4 := Lib.hid (HRM.out.grown0 hg4)
    have HG4 := Lib.hid (HGW.out.trans hg4)
    clear hg4 hlt4 HB3 HRM HGW
    go_wp2_with (refine wpList_store_row _ rfl rfl _ _ _ rfl w4.heap.size 30 zeros8 (wordsV start) rfl rfl (Row.new w4 30 zeros8) rfl (wordsV_one _) (by kernel_rfl) ?_; intro w5 hr5 hg5)
    have hgw5 : w4.grownBy w5 none := grown_own (grown_alloc (grown_refl _ _) _) hg5 (Nat.le_refl _)
    have HR5 := Lib.hid hr5
    have HG5 := Lib.hid (HG4.out.trans hgw5)
    have HRM5 := Lib.hid (HRM4.out.grown0 hgw5)
    have HGE := Lib.hid HG4.out.size
    clear hr5 hg5 hgw5 HRM4 HG4
    generalize w4.heap.size = g at *
    go_loopw [3] (fun u W => ∃ k : Nat, 64 * k ≤ M.length ∧ Rd W u (bytesV (M.drop (64 * k))) ∧ (∀ b, u.ownBlock = some b → b < g) ∧ Row W g 30 (wordsV (runB start (M.take (64 * k)))) ∧ w.grownBy W none) (fun u _ => match u with | .slice _ n _ => n | _ => 0)
    case atStart => exact ⟨0, Nat.zero_le _, HRM5.out, HB4.out, by rw [Nat.mul_zero, List.take_zero, runB_small _ _ (by simp)]; exact HR5.out, HG5.out⟩
    case round =>
      clear HRM5 HB4 HR5 HG5
      obtain ⟨k, hk, hru, hub, hrow, hgr⟩ := hrel
      have hlu := bytesV_len (M.drop (64 * k))
      rw [List.length_drop] at hlu
      have HGR := Lib.hid hgr
      have HROW := Lib.hid hrow
      have HUB := Lib.hid hub
      obtain ⟨A3, c3, rfl⟩ := hru.form
      rw [hlu] at *
      obtain ⟨_, hlc, hcm⟩ := hru.len
      unfold maxLen at hcm
      have HRU := Lib.hid hru
      clear hgr hrow hub hlu
      by_cases h64 : 64 * k + 64 ≤ M.length
      · obtain ⟨ad, rfl, hcl⟩ := hru.cells (by intro e; have := congrArg List.length e; rw [bytesV_len, List.length_drop] at this; simp at this; omega)
        have hb64 : ((M.drop (64 * k)).take 64).length = 64 := by rw [List.length_take, List.length_drop]; omega
        have hc64 : ∀ j u, (bytesV ((M.drop (64 * k)).take 64))[j]? = some u → wr.cell? (ad.add j) = some u := fun j u hj => by
          refine hcl j u ?_
          simp only [bytesV, List.map_take, List.getElem?_take] at hj
          split at hj
          · exact hj
          · cases hj
        have hblk : ad.block < g := HUB.out ad.block rfl
        have hS8 := runB_len start (M.take (64 * k)) start_len
        have HST := Lib.hid (runB_step M k h64)
        generalize runB start (M.take (64 * k)) = S at *
        generalize hBB : (M.drop (64 * k)).take 64 = B at *
        generalize hm : M.length - 64 * k = m at *
        have hm64 : 64 ≤ m := by omega
        have HC := Lib.hid (And.intro hc64 (And.intro hblk (And.intro hS8 hb64)))
        clear hc64 hblk hS8 hb64 hcl hru hBB
        go_wp2
        have hWS : (wordsV S).length = 8 := by rw [wordsV_len, HC.out.2.2.1]
        refine wp_region_walk 5 [] dis_nil (by kernel_rfl) (by kernel_rfl) (by kernel_rfl) ?_
        simp only [List.take_succ_cons, List.take_zero, List.drop_succ_cons, List.drop_zero]
        refine Walk.val (G := Is (.agg (wordsV S).toArray)) (stays_is _ _) rfl rfl (fun a w hm hd => ⟨wanted_plain rfl, _, ex_load_row rfl g 30 (wordsV S) _ (by rw [hm.outer 4 (by kernel_rfl)]; rfl) (HROW.out.grown0 hm.grow.none') Tryd.underlying30 rfl (by rw [hWS]; kernel_rfl), rfl⟩) ?_
        refine Walk.val (G := Is (.slice (some ad) m c3)) (stays_is _ _) rfl rfl (fun a w hm hd => ⟨wanted_plain rfl, _, ex_move rfl, by rw [hm.outer 3 (by kernel_rfl)]; exact rfl⟩) ?_
        refine Walk.val (G := Is (.pointer (some ad))) (stays_is _ _) rfl rfl (fun a w hm hd => ⟨wanted_plain rfl, _, ex_s2a rfl (hd.at_ 1 rfl rfl rfl rfl) hm64, rfl⟩) ?_
        refine Walk.val (G := Is (.agg (bytesV B).toArray)) (stays_is _ _) rfl rfl (fun a w hm hd => ⟨wanted_plain rfl, _, ex_load_block rfl (hd.at_ 2 rfl rfl rfl rfl) HC.out.2.2.2 (fun j u hj => by
          have h1 := HC.out.1 j u hj
          rw [← h1]
          exact World.cell?_of_block (hm.grow.none'.block _ (by have := World.block_lt_of_cell? wr _ h1; exact this) (by simp))), rfl⟩) ?_
        refine Walk.call (G := Is (.agg (wordsV (blk S B)).toArray)) (stays_is _ _) rfl 15 rfl (fun a w hm _ hd => ⟨wanted_plain rfl, _, ex_call2 Tryd.func15 (by kernel_rfl) (by kernel_rfl) rfl, by
          have e4 : a.eval (.tmp 26) = _ := hd.at_ 0 rfl rfl rfl rfl
          have e8 : a.eval (.tmp 29) = _ := hd.at_ 3 rfl rfl rfl rfl
          rw [e4, e8]
          refine (block_any S HC.out.2.2.1 B HC.out.2.2.2 w ((HT.out.grown HGR.out).grown hm.grow.none')).mono ?_
          rintro e w' ⟨rfl, hg⟩
          exact ⟨_, rfl, hg, rfl⟩⟩) ?_
        intro a w7 hm7 hall
        have f0 : a.eval (.tmp 26) = _ := hall 0 _ _ rfl rfl
        have f1 : a.eval (.tmp 27) = _ := hall 1 _ _ rfl rfl
        have f2 : a.eval (.tmp 28) = _ := hall 2 _ _ rfl rfl
        have f3 : a.eval (.tmp 29) = _ := hall 3 _ _ rfl rfl
        have f4 : a.eval (.tmp 30) = _ := hall 4 _ _ rfl rfl
        have hfr := hm7.frame
        simp only [List.take_succ_cons, List.take_zero, List.filterMap_cons, List.filterMap_nil, List.foldl_cons, List.foldl_nil, f0, f1, f2, f3, f4] at hfr
        have hg7 : wr.grownBy w7 none := GrownX.none' hm7.grow
        have R7 := Lib.hid (HROW.out.grown0 hg7)
        have HB8 := Lib.hid (show (wordsV (blk S B)).length = 8 by rw [wordsV_len, blk_len S B HC.out.2.2.1])
        have HG7 := Lib.hid (HGR.out.trans hg7)
        have HR7 := Lib.hid (HRU.out.grown0 hg7)
        have HWS := Lib.hid hWS
        clear f0 f1 f2 f3 f4 hall hm7 hg7 hWS
        rw [hfr]
        clear hfr
        go_wp2_with (refine wpList_store_row _ rfl rfl _ _ _ rfl g 30 _ (wordsV (blk S B)) rfl rfl R7.out (by rw [HB8.out, HWS.out]) (wordsV_one _) (by rw [HB8.out]; kernel_rfl) ?_; intro w8 hr8 hg8)
        have HR8 := Lib.hid hr8
        have HG8 := Lib.hid hg8
        clear hr8 hg8
        go_roundw
        case rel =>
          have hrest := Rd.rest (HR7.out.grown HG8.out (fun b hb e => by have := HUB.out b hb; cases e; omega)) (n := 64) (A := if c3 = 64 then some ad else some ⟨ad.block, ad.off + 64, none⟩) hm64 (by simp [Addr.add])
          refine ⟨k + 1, by omega, ?_, ?_, ?_, grown_own HG7.out HG8.out HGE.out⟩
          · rw [show M.drop (64 * (k + 1)) = (M.drop (64 * k)).drop 64 by rw [List.drop_drop, show 64 * k + 64 = 64 * (k + 1) by omega]]
            exact hrest.1
          · intro b hb
            rw [hrest.2] at hb
            cases hb
            exact HC.out.2.1
          · rw [HST.out]
            exact HR8.out
        case measure => simp; omega
      · have hM64 : M.length % 64 = 0 := by have h1 := HML.out; have h2 := HPL.out; omega
        have hkM : 64 * k = M.length := by omega
        have htk : M.take (64 * k) = M := List.take_of_length_le (by omega)
        rw [htk] at HROW
        have hSL := runB_len start M start_len
        have HSH := HSHA.out
        have hz0 : M.length - 64 * k = 0 := by omega
        rw [hz0] at *
        have HO := of_one _ l wr 22 (HT.out.grown HGR.out) (HR.out.grown0 HGR.out) (by have := HL.out; omega)
        rw [HSH] at HO
        generalize runB start M = S at *
        have HOF := Lib.hid HO
        have HSL := Lib.hid hSL
        have HWV := Lib.hid (show (wordsV S).length = 8 by rw [wordsV_len, hSL])
        have HTL := Lib.hid (show (bytesV (told S)).length = 32 by rw [bytesV_len, told_len, hSL])
        have HI := Lib.hid (fun k hk w => run_index_words 30 8 Tryd.underlying30 S hSL k hk w)
        have HTA := Lib.hid (fun i k hi hk => told_at S i k (by rw [hSL]; exact hi) hk)
        clear HO hSL HSH htk hru hM64 hkM
        go_wp2_with fail
        refine HOF.out.mono ?_
        rintro e w6 ⟨rfl, hg6⟩
        have hg06 : wr.grownBy w6 none := (grown_alloc (grown_refl _ _) _).trans hg6
        have HG6 := Lib.hid (HGR.out.trans hg06)
        have HR6 := Lib.hid (HROW.out.grown0 hg06)
        have HGS := Lib.hid (show g < w6.heap.size from HR6.out.lt)
        clear hg6 hg06 HROW HOF
        have hone := bytesV_one (told S)
        go_wp2_with (refine wpList_store_row _ rfl rfl _ _ _ rfl w6.heap.size 24 (noughts8 32) (bytesV (told S)) rfl rfl (Row.new w6 24 (noughts8 32)) ?_ (bytesV_one _) ?_ ?_)
        · rw [HTL.out]; rfl
        · rw [HTL.out]; kernel_rfl
        intro w7 hr7 hg7
        have hgw7 : w6.grownBy w7 none := grown_own (grown_alloc (grown_refl _ _) _) hg7 (Nat.le_refl _)
        have HG7 := Lib.hid (HG6.out.trans hgw7)
        have HR7 := Lib.hid hr7
        have HS7 := Lib.hid (HR6.out.grown0 hgw7)
        clear hr7 hg7 hgw7 HG6 HR6 hone
        generalize w6.heap.size = g2 at *
        go_wp2_with (refine wpList_load_row _ rfl _ _ rfl g 30 (wordsV S) _ rfl HS7.out Tryd.underlying30 rfl ?_ ?_)
        · rw [HWV.out]; kernel_rfl
        go_wp2
        go_loopw [35] (fun i W => ∃ x : Nat, x ≤ 8 ∧ i = .int .i64 x ∧ Row W g2 24 (bytesV (told S)) ∧ w.grownBy W none) (fun i _ => 8 - (intOf i).toNat)
        case atStart => exact ⟨0, Nat.zero_le _, rfl, HR7.out, HG7.out⟩
        case round =>
          clear HR7 HG7 HS7
          obtain ⟨x, hx, rfl, hrw, hgw⟩ := hrel
          have HRW := Lib.hid hrw
          have HGW := Lib.hid hgw
          clear hrw hgw
          by_cases hlt : x < 8
          · have hidx := HI.out x hlt
            have HT4 := Lib.hid (fun k hk => HTA.out x k hlt hk)
            have hyb := (S.getD x 0).isLt
            generalize S.getD x 0 = y at *
            go_wp2
            go_loopw [39] (fun i W => ∃ q : Nat, q ≤ 4 ∧ i = .int .i64 q ∧ Row W g2 24 (bytesV (told S)) ∧ w.grownBy W none) (fun i _ => 4 - (intOf i).toNat)
            case atStart => exact ⟨0, Nat.zero_le _, rfl, HRW.out, HGW.out⟩
            case round =>
              clear HRW HGW
              obtain ⟨q, hq, rfl, hrw, hgw⟩ := hrel
              have HRW := Lib.hid hrw
              have HGW := Lib.hid hgw
              by_cases hlq : q < 4
              · have hc : wr.cell? ⟨g2, 4 * x + q, none⟩ = some (.int .u8 ((y.toNat : Int) / 2 ^ (24 - 8 * q) % 256)) := by
                  refine hrw.cell ?_
                  have h1 := HT4.out q hlq
                  have e : ((UInt8.ofNat (y.toNat / 2 ^ (24 - 8 * q))).toNat : Int) = (y.toNat : Int) / 2 ^ (24 - 8 * q) % 256 := by
                    rw [UInt8.toNat_ofNat']
                    simp
                  simp only [bytesV, List.getElem?_map, h1, Option.map_some, byteV, e]
                clear hrw hgw
                go_wp2
                go_quiet (fail)
                go_wp2
                go_roundw
                case rel => exact ⟨q + 1, by omega, by go_num, HRW.out.drewN nq, grown_drewN HGW.out nq⟩
                case measure => simp [intOf]; omega
              · go_wp2
                go_roundw
                case rel => exact ⟨x + 1, by omega, by go_num, HRW.out, HGW.out⟩
                case measure => simp [intOf]; omega
          · have HAW := Lib.hid (awake_any wr (HT.out.grown HGW.out))
            go_wp2_with fail
            refine HAW.out.mono ?_
            rintro e w9 ⟨rfl, hg9⟩
            go_wp2
            go_ret
            exact ⟨rfl, HGW.out.trans hg9⟩
end Go.Proofs.YtibpjmbnllmahaaDoor
