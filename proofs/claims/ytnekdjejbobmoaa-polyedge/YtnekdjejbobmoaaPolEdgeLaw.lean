/-
  The law PolyEdge, walked.
-/
import Derived.Test.YtnekdjejbobmoaaPolTimesLaw
namespace Go.Proofs.Ytnekdjejbobmoaa
open Go.RowKit

def edg (low : Nat) : List UInt8 := UInt8.ofNat low :: List.replicate 15 255
def edK (k : Nat) : List UInt8 := List.replicate k 255 ++ List.replicate (16 - k) 0
theorem edK_len (k : Nat) (h : k ≤ 16) : (edK k).length = 16 := by simp [edK]; omega
theorem edK_set (k : Nat) (h : k < 16) : (edK k).set k 255 = edK (k + 1) := by
  unfold edK
  rw [List.set_append_right _ _ (by simp), List.length_replicate, Nat.sub_self, show 16 - k = 16 - (k + 1) + 1 by omega, List.replicate_succ, List.set_cons_zero, List.replicate_succ']
  simp
theorem edK_all (low : Nat) : (edK 16).set 0 (UInt8.ofNat low) = edg low := rfl
theorem edg_len (low : Nat) : (edg low).length = 16 := rfl
def one16 : List UInt8 := 1 :: List.replicate 15 0
def zer16 : List UInt8 := List.replicate 16 0
theorem times_one (a : List UInt8) (h : a.length = 16) : timesB a one16 = a ++ [0] := by
  have h1 : le (clampB one16) = 1 := by decide
  have hl := le_lt a
  rw [h] at hl
  have e := leB_le (a ++ [0])
  rw [le_wide, List.length_append, h] at e
  unfold timesB
  rw [h1, Nat.mul_one, Nat.mod_eq_of_lt (by unfold PP; omega)]
  exact e
theorem times_nought (r : List UInt8) : timesB zer16 r = List.replicate 17 0 := by
  unfold timesB
  rw [show le zer16 = 0 from le_zeros 16, Nat.zero_mul, Nat.zero_mod]
  rfl
theorem zer16_cells : (bytesV zer16).toArray = #[.int .u8 0, .int .u8 0, .int .u8 0, .int .u8 0, .int .u8 0, .int .u8 0, .int .u8 0, .int .u8 0, .int .u8 0, .int .u8 0, .int .u8 0, .int .u8 0, .int .u8 0, .int .u8 0, .int .u8 0, .int .u8 0] := rfl
theorem zer17_cells : (bytesV (List.replicate 17 0)).toArray = #[.int .u8 0, .int .u8 0, .int .u8 0, .int .u8 0, .int .u8 0, .int .u8 0, .int .u8 0, .int .u8 0, .int .u8 0, .int .u8 0, .int .u8 0, .int .u8 0, .int .u8 0, .int .u8 0, .int .u8 0, .int .u8 0, .int .u8 0] := rfl

/-- A whole block taken out, by an operation whose guard says yes. -/
theorem wpList_load_want {P : Program} (w : World) {ops : Array Oper} {rest : List Oper} {o : Oper} {a : Act} {Q : Exit → Act → World → Prop} (hw : Region.wanted o (yielded ops a.tmps) = true) (x : Operand) (ty : TypeId) (ho : o.op = .load ty x)
    (g : Nat) (t : TypeId) (cs : List Value) (d : TypeDesc) (hv : a.eval x = .pointer (some ⟨g, 0, none⟩)) (hr : Row w g t cs)
    (hu : P.underlying ty = some d) (hd : (match d with | .struct _ | .array _ _ => true | _ => false) = true) (hi : (P.info? ty).map (·.size) = some cs.length)
    (h : wpList P ops Q rest (a.put o.dst (.agg cs.toArray)) w) : wpList P ops Q (o :: rest) a w :=
  BigFrame.wpList_want hw fun _ hK => by
    have hrun := run_loadAt_part (P := P) w g 0 t ty cs cs d hr (fun j u hu => by rw [Nat.zero_add]; exact hu) hu hd hi
    unfold Oper.wp execOp
    simp only [ho, hv, Sem.run_bind, hrun, Result.andThen_ok, Sem.run_pure]
    exact hK _ _ h

set_option maxHeartbeats 16000000 in
theorem polyEdge_walk (r : List UInt8) (hr : r.length = 16) (low : Nat) (hlow : low < 256) (w : World) :
    Calls Try.prog 5 #[.agg (bytesV r).toArray, .int .u8 (low : Int)] w (Awake w) := by
  generalize hG : w.heap.size = G
  have HG := Lib.hid hG
  have HR := Lib.hid hr
  have HRL := Lib.hid (show (bytesV r).length = 16 by rw [bytesV_len, hr])
  have R0 := Lib.hid ((Row.newAt w 25 (bytesV r) hG).alloc (.cells (bytesV (edK 0)).toArray 25))
  have R1 := Lib.hid (Row.newAt (w.alloc (.cells (bytesV r).toArray 25)) 25 (bytesV (edK 0)) (show _ = G + 1 by simp [hG]))
  have HGR := Lib.hid (grown_alloc (grown_alloc (grown_refl w none) (.cells (bytesV r).toArray 25)) (.cells (bytesV (edK 0)).toArray 25))
  go_enter Try.func5, Try.ntmps5
  go_wp2
  clear hG hr
  go_loopw [12] (fun i W => ∃ k : Nat, k ≤ 16 ∧ i = .int .i64 k ∧ Row W G 25 (bytesV r) ∧ Row W (G + 1) 25 (bytesV (edK k)) ∧ w.grownBy W none) (fun i _ => 16 - (intOf i).toNat)
  case atStart => exact ⟨0, Nat.zero_le _, rfl, R0.out, R1.out, HGR.out⟩
  case round =>
    clear R0 R1 HGR
    obtain ⟨k, hk, rfl, r0, r1, hgr⟩ := hrel
    have N0 := Lib.hid r0
    have N1 := Lib.hid r1
    have HGN := Lib.hid hgr
    clear r0 hgr
    by_cases hlt : k < 16
    · have hc1 := r1.cell (bytesV_at (edK k) k (by rw [edK_len k hk]; exact hlt))
      have hf1 := r1.frozen k
      have HS := Lib.hid (edK_set k hlt)
      clear r1
      go_wp2
      go_roundw
      case rel =>
        refine ⟨k + 1, by omega, by go_num, N0.out.other (by omega) _, ?_, grown_own HGN.out (grown_set wr (G + 1) k _) (by have := HG.out; omega)⟩
        rw [← HS.out, ← bytesV_set]
        exact N1.out.set k _
      case measure => simp [intOf]; omega
    · obtain rfl : k = 16 := by omega
      have hc1 := r1.cell (bytesV_at (edK 16) 0 (by decide))
      have hf1 := r1.frozen 0
      obtain ⟨W1, hW1⟩ : ∃ W, wr.setCell ⟨G + 1, 0, none⟩ (.int .u8 (low : Int)) = W := ⟨_, rfl⟩
      have M0 := Lib.hid (show Row W1 G 25 (bytesV r) by rw [← hW1]; exact N0.out.other (by omega) _)
      have M1 := Lib.hid (show Row W1 (G + 1) 25 (bytesV (edg low)) by
        rw [← hW1, ← edK_all low, ← bytesV_set, show byteV (UInt8.ofNat low) = .int .u8 (low : Int) by unfold byteV; rw [UInt8.toNat_ofNat']; congr 1; omega]
        exact N1.out.set 0 _)
      have HGM := Lib.hid (show w.grownBy W1 none by rw [← hW1]; exact grown_own HGN.out (grown_set wr (G + 1) 0 _) (by have := HG.out; omega))
      have hltM := M1.out.lt
      have HOL := Lib.hid (show (bytesV one16).length = 16 from rfl)
      have HOO := Lib.hid (fun x hx => bytesV_one one16 x hx)
      have HEL := Lib.hid (show (bytesV (edg low)).length = 16 by rw [bytesV_len, edg_len])
      clear r1 hk hlt N0 N1 HGN
      go_wp2_with (first
        | (refine wpList_store_row _ rfl rfl _ _ 25 rfl W1.heap.size 25 (noughts8 16) (bytesV one16) rfl rfl (Row.new W1 25 (noughts8 16)) rfl HOO.out (by rw [HOL.out]; kernel_rfl) ?_; intro w2 hr2 hg2; have P1 := Lib.hid ((M1.out.alloc (.cells (noughts8 16).toArray 25)).grown hg2 (by simp; omega)))
        | refine wpList_load_row _ rfl _ 25 rfl (G + 1) 25 (bytesV (edg low)) _ rfl P1.out Try.underlying25 rfl (by rw [HEL.out]; kernel_rfl) ?_
        | refine wpList_load_row _ rfl _ 25 rfl W1.heap.size 25 (bytesV one16) _ rfl hr2 Try.underlying25 rfl (by rw [HOL.out]; kernel_rfl) ?_)
      have P0 := Lib.hid ((M0.out.alloc (.cells (noughts8 16).toArray 25)).grown hg2 (by simp; omega))
      have hsw := HGM.out.size
      have HGP := Lib.hid (grown_own (grown_alloc HGM.out (.cells (noughts8 16).toArray 25)) hg2 hsw)
      clear hr2 hg2 hltM hsw M0 M1 HGM
      have HT := times_any (edg low) one16 (edg_len low) rfl w2
      rw [times_one (edg low) (edg_len low)] at HT
      refine HT.mono ?_
      rintro e w3 ⟨rfl, hg3⟩
      have Q0 := Lib.hid (P0.out.grown0 hg3)
      have Q1 := Lib.hid (P1.out.grown0 hg3)
      have HGQ := Lib.hid (HGP.out.trans hg3)
      have hlt3 := Q1.out.lt
      have HXL := Lib.hid (show (bytesV (edg low ++ [0])).length = 17 by rw [bytesV_len, List.length_append, edg_len]; rfl)
      have HXO := Lib.hid (fun x hx => bytesV_one (edg low ++ [0]) x hx)
      clear hg3 HT P0 P1 HGP
      go_wp2_with (first
        | (refine wpList_store_row _ rfl rfl _ _ 31 rfl w3.heap.size 31 (noughts8 17) (bytesV (edg low ++ [0])) rfl rfl (Row.new w3 31 (noughts8 17)) (by rw [HXL.out]; rfl) HXO.out (by rw [HXL.out]; kernel_rfl) ?_; intro w4 hr4 hg4; have L1 := Lib.hid ((Q1.out.alloc (.cells (noughts8 17).toArray 31)).grown hg4 (by simp; omega)))
        | refine wpList_load_row _ rfl _ 25 rfl (G + 1) 25 (bytesV (edg low)) _ rfl L1.out Try.underlying25 rfl (by rw [HEL.out]; kernel_rfl) ?_)
      have L0 := Lib.hid ((Q0.out.alloc (.cells (noughts8 17).toArray 31)).grown hg4 (by simp; omega))
      have L2 := Lib.hid hr4
      have hsw := HGQ.out.size
      have HGL := Lib.hid (grown_own (grown_alloc HGQ.out (.cells (noughts8 17).toArray 31)) hg4 hsw)
      clear hr4 hg4 hsw hlt3 Q0 Q1 HGQ
      generalize w3.heap.size = gX at *
      go_loopw [25] (fun i W => ∃ k : Nat, k ≤ 16 ∧ i = .int .i64 k ∧ W = w4) (fun i _ => 16 - (intOf i).toNat)
      case atStart => exact ⟨0, Nat.zero_le _, rfl, rfl⟩
      case round =>
        obtain ⟨k, hk, rfl, hw⟩ := hrel
        subst hw
        by_cases hlt : k < 16
        · have hidx := index_half (edg low) (edg_len low) k hlt
          have hc2 := L2.out.cell (bytesV_at (edg low ++ [0]) k (by rw [List.length_append, edg_len]; omega))
          have hgd : (edg low ++ [0]).getD k 0 = (edg low).getD k 0 := by
            rw [List.getD_eq_getElem?_getD, List.getElem?_append_left (by rw [edg_len]; exact hlt), ← List.getD_eq_getElem?_getD]
          rw [hgd] at hc2
          clear hgd
          have hx8 := UInt8.toNat_lt ((edg low).getD k 0)
          generalize ((edg low).getD k 0).toNat = x at *
          have hdec : decide ((k : Int) < 16) = true := by simp; omega
          go_wp2
          go_roundw
          case rel => exact ⟨k + 1, by omega, by go_num, by first | rfl | trivial⟩
          case measure => simp [intOf]; omega
        · have hdec : decide ((k : Int) < 16) = false := by simp; omega
          have hc2 : wr.cell? ⟨gX, 16, none⟩ = some (.int .u8 0) := L2.out.cell (by
            have := bytesV_at (edg low ++ [0]) 16 (by rw [List.length_append, edg_len]; decide)
            rw [this]
            rfl)
          have HT := Lib.hid (fun w => times_any zer16 r rfl HR.out w)
          rw [times_nought, zer16_cells] at HT
          have heq := eq_self17 (List.replicate 17 0) rfl
          rw [zer17_cells] at heq HT
          have HP := Lib.hid (fun w => polyTimes_walk (edg low) (edg_len low) r HR.out w)
          clear hk hlt
          go_wp2_with (first
            | (go_at_call 14; refine (HT.out _).mono ?_; rintro e w5 ⟨rfl, hg5⟩; have K0 := Lib.hid (L0.out.grown0 hg5); have K1 := Lib.hid (L1.out.grown0 hg5); have HG5 := Lib.hid hg5; clear hg5)
            | (go_at_call 4; refine (HP.out _).mono ?_; rintro e w6 ⟨rfl, hg6⟩; have HG6 := Lib.hid hg6; clear hg6)
            | (go_at_call 10; refine (awake_any _).mono ?_; rintro e w7 ⟨rfl, hg7⟩; have HG7 := Lib.hid hg7; clear hg7)
            | refine wpList_load_want _ rfl _ 25 rfl G 25 (bytesV r) _ rfl K0.out Try.underlying25 rfl (by rw [HRL.out]; kernel_rfl) ?_
            | refine wpList_load_want _ rfl _ 25 rfl (G + 1) 25 (bytesV (edg low)) _ rfl K1.out Try.underlying25 rfl (by rw [HEL.out]; kernel_rfl) ?_
            | refine wpList_load_want _ rfl _ 25 rfl G 25 (bytesV r) _ rfl L0.out Try.underlying25 rfl (by rw [HRL.out]; kernel_rfl) ?_)
          go_ret
          exact ⟨rfl, ((HGL.out.trans HG5.out).trans HG6.out).trans HG7.out⟩
end Go.Proofs.Ytnekdjejbobmoaa
