/-
  match's token over this program.
-/
import Derived.Test.YtibofgokdjbomaaPassPr
namespace Go.Proofs.Ytibofgokdjbomaa
set_option maxRecDepth 1000000
open Go.RowKit

theorem Upto.len {b : List UInt8} {win p : Nat} {place : Int} {t : Tok} (h : Upto b win p place t) : 0 ≤ t.len ∧ t.len ≤ ((nextOf b p).length : Nat) := by
  obtain ⟨_, _, _, k0, h1, h2, h3⟩ := h
  rw [← h3 k0 (Nat.le_refl _) h2]
  exact best_len b p k0

theorem lastOf_next (gp gb gm : Nat) (A : Option Addr) (c : Nat) (b : List UInt8) (win : Int) (p : Nat) (v : Value) (w : World) (h : Prs w gp gb gm A c b win p) (hv : Rd w v (bytesV (nextOf b p))) :
    Calls Try.prog 87 #[.pointer (some ⟨gp, 0, none⟩), v] w (Val (.int .i64 (prevP b p)) w) := by
  have := lastOf_any gp gb gm A c b win p v (nextOf b p) w h hv
  rw [tri_next] at this
  exact this.mono fun _ _ h => h.val
theorem next_rd {w : World} {ad : Addr} {c p L : Nat} {b : List UInt8} (h : Rd w (.slice (some ad) b.length c) (bytesV b)) (hp : p < b.length) (hL : (nextOf b p).length = L) : Rd w (.slice (some (ad.add p)) L (c - p)) (bytesV (nextOf b p)) := by
  obtain ⟨_, hrc, _⟩ := h.len
  have hLb : L = min 258 (b.length - p) := by rw [← hL, nextOf_len]
  have hn := (h.drop (n := p) (by omega)).take (n := L) (d := c - p) (by omega) (by omega) (Nat.le_refl _)
  rw [show ((bytesV b).drop p).take L = bytesV (nextOf b p) by
    unfold nextOf bytesV
    rw [List.map_take, List.map_drop, hLb]
    apply List.ext_getElem?
    intro i
    simp only [List.getElem?_take, List.getElem?_drop, List.getElem?_map]
    by_cases h1 : i < 258
    · by_cases h2 : i < b.length - p
      · rw [if_pos (by omega), if_pos h1]
      · rw [if_neg (by omega), if_pos h1, List.getElem?_eq_none (by omega)]; rfl
    · rw [if_neg (by omega), if_neg h1]] at hn
  exact hn
theorem byte_cell {w : World} {ad : Addr} {n c i : Nat} {b : List UInt8} {x : UInt8} (h : Rd w (.slice (some ad) n c) (bytesV b)) (hx : b[i]? = some x) : w.cell? (ad.add i) = some (.int .u8 (x.toNat : Int)) := by
  obtain ⟨ad', e, hc⟩ := h.cells (by intro e; have := congrArg List.length e; rw [bytesV_len] at this; simp at this; subst this; simp at hx)
  obtain rfl : ad = ad' := by simpa using e
  exact hc i _ (by simp [bytesV, hx, byteV])
theorem Prs.turned {w w' : World} {gp gb gm g : Nat} {A : Option Addr} {c : Nat} {b : List UInt8} {win : Int} {p : Nat} (h : Prs w gp gb gm A c b win p) (hg : w.grownBy w' (some g)) (hne : gp < g ∧ gb < g ∧ gm < g ∧ ∀ k, (Value.slice A b.length c).ownBlock = some k → k < g) : Prs w' gp gb gm A c b win p := by
  obtain ⟨h1, h2, ⟨l, h3, h4, h5⟩, h6, h7, h8, h9⟩ := h
  obtain ⟨n1, n2, n3, n4⟩ := hne
  exact ⟨h1.grown hg (by simp; omega), h2.grown hg (fun k e => by have := n4 k e; simp; omega), ⟨l, h3.grown hg (by simp; omega), h4, h5⟩, h6.kept hg (by simp; omega), h7, h8, h9⟩
theorem Rd.own_lt {w : World} {v : Value} {xs : List Value} (h : Rd w v xs) (hne : xs ≠ []) : ∀ k, v.ownBlock = some k → k < w.heap.size := by
  obtain ⟨A, c, rfl, _, _, hc⟩ := h
  intro k hk
  obtain ⟨ad, rfl, hcl⟩ := hc hne
  rcases xs with _ | ⟨x, xs⟩
  · exact absurd rfl hne
  · have := World.block_lt_of_cell? w _ (hcl 0 x rfl)
    rw [add_block] at this
    simp only [Value.ownBlock, Option.some.injEq] at hk
    rw [← hk]
    exact this
/-- Ahead of a round of token's loop. -/
structure TokI (w W : World) (gp gb gm : Nat) (A : Option Addr) (c : Nat) (b : List UInt8) (win p : Nat) (g2 g4 : Nat) (place : Int) (t : Tok) : Prop where
  prs : Prs W gp gb gm A c b (win : Int) p
  two : Row W g2 37 [.int .u8 0, .int .i64 0, .int .i64 0]
  four : Row W g4 37 (tokC t)
  grow : w.grownBy W none
  ne : g2 ≠ g4
  new : w.heap.size ≤ g2 ∧ w.heap.size ≤ g4
  upto : Upto b win p place t
  low : gp < w.heap.size ∧ gb < w.heap.size ∧ gm < w.heap.size ∧ ∀ k, (Value.slice A b.length c).ownBlock = some k → k < w.heap.size

theorem TokI.grown0 {w W W' : World} {gp gb gm : Nat} {A : Option Addr} {c : Nat} {b : List UInt8} {win p g2 g4 : Nat} {place place' : Int} {t : Tok} (h : TokI w W gp gb gm A c b win p g2 g4 place t) (hg : W.grownBy W' none) (hu : Upto b win p place' t) : TokI w W' gp gb gm A c b win p g2 g4 place' t :=
  ⟨h.prs.grown0 hg, h.two.grown0 hg, h.four.grown0 hg, h.grow.trans hg, h.ne, h.new, hu, h.low⟩
theorem TokI.put {w W W' : World} {gp gb gm : Nat} {A : Option Addr} {c : Nat} {b : List UInt8} {win p g2 g4 : Nat} {place place' : Int} {t t' : Tok} (h : TokI w W gp gb gm A c b win p g2 g4 place t) (hr : Row W' g4 37 (tokC t')) (hg : W.grownBy W' (some g4)) (hu : Upto b win p place' t') : TokI w W' gp gb gm A c b win p g2 g4 place' t' := by
  have hn := h.new.2
  obtain ⟨l1, l2, l3, l4⟩ := h.low
  exact ⟨h.prs.turned hg ⟨by omega, by omega, by omega, fun k e => by have := l4 k e; omega⟩, h.two.grown hg (by simp; exact h.ne), hr, grown_own h.grow hg hn, h.ne, h.new, hu, h.low⟩

set_option maxHeartbeats 1000000 in
theorem token_any (gp gb gm : Nat) (A : Option Addr) (c : Nat) (b : List UInt8) (win p : Nat) (w : World) (h : Prs w gp gb gm A c b (win : Int) p) (hp : p < b.length) (hsm : b.length ≤ 100000) (hwin : win ≤ 32768) :
    Calls Try.prog 67 #[.pointer (some ⟨gp, 0, none⟩)] w (Val (tokV (tokAt b win p)) w) := by
  obtain ⟨hrl, hrc, hrm⟩ := h.rd.len
  obtain ⟨ad, rfl⟩ : ∃ ad, A = some ad := by
    obtain ⟨ad, e, _⟩ := h.rd.cells (by intro e; have := congrArg List.length e; rw [bytesV_len] at this; simp at this; subst this; simp at hp)
    exact ⟨ad, e⟩
  obtain ⟨W1, hW1⟩ : ∃ W, w.alloc (.cells #[.int .u8 0, .int .i64 0, .int .i64 0] 37) = W := ⟨_, rfl⟩
  have hgw := grown_alloc (grown_refl w none) (.cells #[.int .u8 0, .int .i64 0, .int .i64 0] 37)
  have h2 := Row.new w 37 [.int .u8 0, .int .i64 0, .int .i64 0]
  rw [hW1] at hgw
  rw [show w.alloc (.cells [Value.int .u8 0, .int .i64 0, .int .i64 0].toArray 37) = W1 from hW1] at h2
  have h1 := h.grown0 hgw
  have HLOW := Lib.hid (show gp < w.heap.size ∧ gb < w.heap.size ∧ gm < w.heap.size ∧ ∀ k, (Value.slice (some ad) b.length c).ownBlock = some k → k < w.heap.size from
    ⟨h.row.lt, by obtain ⟨l, h3, _⟩ := h.bef; exact h3.lt, h.map.lt, h.rd.own_lt (by intro e; have := congrArg List.length e; rw [bytesV_len] at this; simp at this; subst this; simp at hp)⟩)
  have r0 := h1.row.cell (j := 0) rfl
  have r1 := h1.row.cell (j := 1) rfl
  have r2 := h1.row.cell (j := 2) rfl
  have HP := Lib.hid h1
  have H2 := Lib.hid h2
  have HG1 := Lib.hid hgw
  clear h h1 h2 hgw
  go_enter Try.func67, Try.ntmps67
  go_wp2
  clear hW1
  go_quiet (fail)
  obtain ⟨L, hLe⟩ : ∃ L, (nextOf b p).length = L := ⟨_, rfl⟩
  have hL : (if (b.length : Int) < (p : Int) + 258 then (b.length : Int) else (p : Int) + 258).toNat - p = L := by rw [← hLe, nextOf_len]; split <;> omega
  have hLb : L = min 258 (b.length - p) := by rw [← hLe, nextOf_len]
  simp only [hL]
  generalize (if (b.length : Int) < (p : Int) + 258 then (b.length : Int) else (p : Int) + 258) = mi
  have hgq := grown_drewN (grown_refl W1 none) nq
  have r1' : (W1.drewN nq).cell? ⟨gp, 1, none⟩ = some (.int .i64 (win : Int)) := r1
  have r2' : (W1.drewN nq).cell? ⟨gp, 2, none⟩ = some (.int .i64 (p : Int)) := r2
  generalize W1.drewN nq = W2 at *
  have hpr := HP.out.grown0 hgq
  have hn := next_rd hpr.rd hp hLe
  obtain ⟨y, hy⟩ : ∃ y, b[p]? = some y := ⟨_, List.getElem?_eq_getElem hp⟩
  have hyd : b.getD p 0 = y := by rw [List.getD_eq_getElem?_getD, hy]; rfl
  have k0 : W2.cell? (ad.add p) = some (.int .u8 (y.toNat : Int)) := by
    obtain ⟨ad', e, hc⟩ := hpr.rd.cells (by intro e; have := congrArg List.length e; rw [bytesV_len] at this; simp at this; subst this; simp at hp)
    obtain rfl : ad = ad' := by simpa using e
    exact hc p _ (by simp [bytesV, hy, byteV])
  have hL0 : 0 < L := by omega
  have hLs : L ≤ 258 := by omega
  have hpL : p + L ≤ b.length := by omega
  have HLB := Lib.hid hLb
  have HPR := Lib.hid hpr
  have HNX := Lib.hid hn
  have HGQ := Lib.hid hgq
  have HYD := Lib.hid hyd
  have HLE := Lib.hid hLe
  clear hpr hn hgq hyd hL hLe hLb hy r0 r1 r2
  go_wp2
  have hg3 := grown_alloc (grown_refl W2 none) (.cells #[.int .u8 (y.toNat : Int), .int .i64 0, .int .i64 0] 37)
  have h4 : Row (W2.alloc (.cells #[.int .u8 (y.toNat : Int), .int .i64 0, .int .i64 0] 37)) W2.heap.size 37 (tokC (litT y)) := Row.new W2 _ _
  have q1 := (HPR.out.grown0 hg3).row.cell (j := 1) rfl
  have q2 := (HPR.out.grown0 hg3).row.cell (j := 2) rfl
  generalize hW3 : W2.alloc (.cells #[.int .u8 (y.toNat : Int), .int .i64 0, .int .i64 0] 37) = W3 at *
  have HG3 := Lib.hid hg3
  have H4 := Lib.hid h4
  clear hg3 h4 r1' r2' hW3
  go_quiet (fail)
  obtain ⟨F, hF⟩ : ∃ F, (if win < p then (p : Int) - (win : Int) else 0) = F := ⟨_, rfl⟩
  rw [hF]
  have HF := Lib.hid (show F = max 0 ((p : Int) - win) by rw [← hF]; split <;> omega)
  have hg4 := grown_drewN (grown_refl W3 none) nq
  generalize W3.drewN nq = W4 at *
  have HG4 := Lib.hid (HG3.out.trans hg4)
  have HPR4 := Lib.hid (HPR.out.grown0 HG4.out)
  have HNX4 := Lib.hid (HNX.out.grown0 HG4.out)
  have HLO := Lib.hid (lastOf_next gp gb gm (some ad) c b win p _ W4 HPR4.out HNX4.out)
  have HTW := Lib.hid (H2.out.grown0 (HGQ.out.trans HG4.out))
  have HFO := Lib.hid (H4.out.grown0 hg4)
  have HGW := Lib.hid (HG1.out.trans (HGQ.out.trans HG4.out))
  have HNE := Lib.hid (show w.heap.size ≠ W2.heap.size ∧ w.heap.size ≤ W2.heap.size by
    have h1 := H2.out.lt
    have h2 := HGQ.out.size
    omega)
  clear hF hg4 q1 q2 H2 H4 HGQ HG1 HG3 HG4 HNX HPR HP k0
  go_wp2_with fail
  refine HLO.out.mono ?_
  rintro e W5 ⟨rfl, hg5⟩
  have HI0 := Lib.hid (show TokI w W5 gp gb gm (some ad) c b win p w.heap.size W2.heap.size (prevP b p) (litT (b.getD p 0)) from
    ⟨HPR4.out.grown0 hg5, HTW.out.grown0 hg5, by rw [HYD.out]; exact HFO.out.grown0 hg5, HGW.out.trans hg5, HNE.out.1, ⟨Nat.le_refl _, HNE.out.2⟩, Upto.start b win p, HLOW.out⟩)
  have HNX5 := Lib.hid (HNX4.out.grown0 hg5)
  clear HLOW hg5 HLO HNX4 HPR4 HTW HFO HGW HYD
  generalize w.heap.size = g2 at *
  generalize W2.heap.size = g4 at *
  clear W1 W3 W4
  go_wp2
  go_loopw [6] (fun i W => ∃ (z : Int) (t : Tok), i = .int .i64 z ∧ TokI w W gp gb gm (some ad) c b win p g2 g4 z t) (fun i _ => (intOf i + 1).toNat)
  case atStart => exact ⟨_, _, rfl, HI0.out⟩
  case round =>
    obtain ⟨z, t, rfl, hi⟩ := hrel
    have hlen := hi.upto.len
    rw [HLE.out] at hlen
    have hzb := hi.upto.1
    have hzp := hi.upto.2.1
    have f1 := hi.four.cell (j := 1) rfl
    have HI := Lib.hid hi
    clear hi HI0
    have HEND := Lib.hid (fun (he : tokAt b win p = t) (W' : World) (tm : Array Value) (hg : wr.grownBy W' (some g2)) (hr : Row W' g2 37 (tokC t)) (hv : tm.getD 2 undef = .pointer (some ⟨g2, 0, none⟩)) =>
      show bodyPost Try.prog Try.f67 (Val (tokV (tokAt b win p)) w) Exit.ret { tmps := tm, defers := [] } W' from
        bodyPost_ret (v := tokV t) (results_row Try.results67 g2 37 (tokC t) _ hv hr Try.underlying37 rfl (by kernel_rfl)) rfl ⟨by rw [he], grown_own HI.out.grow hg HI.out.new.1⟩)
    by_cases hc1 : F ≤ z
    · have hd1 : decide (F ≤ z) = true := by simpa using hc1
      by_cases hc2 : t.len < (L : Int)
      · have hd2 : decide (t.len < (L : Int)) = true := by simpa using hc2
        have hF0 : 0 ≤ z := by have := HF.out; omega
        have HFZ := Lib.hid (show max 0 ((p : Int) - win) ≤ z by rw [← HF.out]; exact hc1)
        obtain ⟨q, rfl⟩ : ∃ q : Nat, z = (q : Int) := ⟨z.toNat, by omega⟩
        obtain ⟨M, hM⟩ : ∃ M : Nat, t.len = (M : Int) := ⟨t.len.toNat, by omega⟩
        rw [hM] at f1 hd2 hlen hc2
        have HM := Lib.hid hM
        have hqp : q < p := by omega
        have hML : M < L := by omega
        obtain ⟨x, hx⟩ : ∃ x, b[q + M]? = some x := ⟨_, List.getElem?_eq_getElem (by omega)⟩
        obtain ⟨y2, hy2⟩ : ∃ x, b[p + M]? = some x := ⟨_, List.getElem?_eq_getElem (by omega)⟩
        have cx := byte_cell HI.out.prs.rd hx
        have cy := byte_cell (next_rd HI.out.prs.rd hp HLE.out) (show (nextOf b p)[M]? = some y2 by rw [nextOf_at _ _ _ (by omega)]; exact hy2)
        have r0 := HI.out.prs.row.cell (j := 0) rfl
        have r4 := HI.out.prs.row.cell (j := 4) rfl
        have HX := Lib.hid hx
        have HY2 := Lib.hid hy2
        clear hM hx hy2 hF0 hc1 hc2 hzb hlen HEND
        by_cases he : x = y2
        · have hb : ((x.toNat : Int) == (y2.toNat : Int)) = true := by rw [he]; simp
          go_wp2
          go_quiet (fail)
          have hg6 := grown_drewN (grown_refl wr none) nq
          have h6 := HI.out.grown0 hg6 HI.out.upto
          generalize wr.drewN nq = W6 at *
          have q0 := h6.prs.row.cell (j := 0) rfl
          have q1 := h6.four.cell (j := 1) rfl
          rw [HM.out] at q1
          have HAL := Lib.hid (show Calls Try.prog 88 #[.slice (some (ad.add q)) (b.length - q) (c - q), .slice (some (ad.add p)) L (c - p)] W6 (Val (.int .i64 ((mlen b p q : Nat) : Int)) W6) from
            alike_any _ _ (b.drop q) (nextOf b p) W6 (by
              have := h6.prs.rd.drop (n := q) (by omega)
              rw [show (bytesV b).drop q = bytesV (b.drop q) by simp [bytesV, List.map_drop]] at this
              exact this) (next_rd h6.prs.rd hp HLE.out) (by rw [HLE.out, List.length_drop]; omega) (by rw [HLE.out]; omega))
          have HI6 := Lib.hid h6
          clear hg6 h6 r0 r4 cx cy f1 HI
          go_wp2_with fail
          refine HAL.out.mono ?_
          rintro e W7 ⟨rfl, hg7⟩
          have h7 := HI6.out.grown0 hg7 HI6.out.upto
          have q1 := h7.four.cell (j := 1) rfl
          rw [HM.out] at q1
          have HI7 := Lib.hid h7
          have hml := mlen_le b p q
          rw [HLE.out] at hml
          clear hg7 h7 HAL HI6 q0
          by_cases hbt : M < mlen b p q
          · have hbd : decide ((M : Int) < ((mlen b p q : Nat) : Int)) = true := by simpa using hbt
            have hbd2 : decide (M < mlen b p q) = true := by simpa using hbt
            have q2 := HI7.out.prs.row.cell (j := 2) rfl
            have HU := Lib.hid (HI7.out.upto.next (t' := ⟨0, (mlen b p q : Nat), (p : Int) - q⟩) HFZ.out (by rw [HM.out, if_pos (by simpa using hbt)]))
            have hpq := prevP_lt b q
            generalize mlen b p q = ml at *
            go_wp2_with ((refine wpList_store_row _ rfl rfl _ _ 37 rfl g4 37 _ (tokC ⟨0, (ml : Int), (p : Int) - (q : Int)⟩) rfl rfl HI7.out.four rfl (tokC_one _) (by kernel_rfl) ?_; intro W8 hr8 hg8; have h8 := HI7.out.put hr8 hg8 HU.out; have q4 := h8.prs.row.cell (j := 4) rfl; obtain ⟨lb, hlr, hll, hlq⟩ := h8.prs.bef; have cbf := hlr.cell (j := q) (u := .int .i64 (prevP b q)) (by simp [intCs, hlq q hqp]); have HI8 := Lib.hid h8; clear hlr hlq hll h8 hr8 hg8))
            go_roundw
            case rel => exact ⟨_, _, rfl, HI8.out⟩
            case measure => simp only [intOf]; omega
          · have hbd : decide ((M : Int) < ((mlen b p q : Nat) : Int)) = false := by simpa using hbt
            have hbd2 : decide (M < mlen b p q) = false := by simpa using hbt
            have HU := Lib.hid (HI7.out.upto.next (t' := t) HFZ.out (by rw [HM.out, if_neg (by simpa using hbt)]))
            have q4 := HI7.out.prs.row.cell (j := 4) rfl
            obtain ⟨lb, hlr, hll, hlq⟩ := HI7.out.prs.bef
            have cbf := hlr.cell (j := q) (u := .int .i64 (prevP b q)) (by simp [intCs, hlq q hqp])
            have hpq := prevP_lt b q
            clear hlr hlq hll hbt
            go_wp2
            go_roundw
            case rel => exact ⟨_, t, rfl, HI7.out.grown0 (grown_refl _ _) HU.out⟩
            case measure => simp only [intOf]; omega
        · have hb : ((x.toNat : Int) == (y2.toNat : Int)) = false := by
            rw [beq_eq_false_iff_ne]
            intro h
            exact he (UInt8.toNat_inj.1 (by omega))
          have hml : mlen b p q ≤ M := by
            by_cases hm : mlen b p q ≤ M
            · exact hm
            · have := (mlen_at b p q M (by omega)).1
              rw [HX.out, HY2.out] at this
              exact absurd (Option.some.inj this) he
          have HU := Lib.hid (HI.out.upto.next (t' := t) HFZ.out (by rw [HM.out, if_neg (by omega)]))
          go_wp2
          go_quiet (fail)
          have hg6 := grown_drewN (grown_refl wr none) nq
          have h6 := HI.out.grown0 hg6 HU.out
          generalize wr.drewN nq = W6 at *
          have q4 := h6.prs.row.cell (j := 4) rfl
          obtain ⟨lb, hlr, hll, hlq⟩ := h6.prs.bef
          have cbf := hlr.cell (j := q) (u := .int .i64 (prevP b q)) (by simp [intCs, hlq q hqp])
          have hpq := prevP_lt b q
          have HI6 := Lib.hid h6
          clear hlr hlq hll hml hg6 h6 r0 r4 cx cy f1
          go_wp2
          go_roundw
          case rel => exact ⟨_, t, rfl, HI6.out⟩
          case measure => simp only [intOf]; omega
      · have hd2 : decide (t.len < (L : Int)) = false := by simpa using hc2
        have HEQ := Lib.hid (HI.out.upto.full (by rw [HLE.out]; omega))
        go_wp2_with (first
          | refine wpList_load_row _ rfl _ 37 rfl g4 37 (tokC t) _ rfl HI.out.four Try.underlying37 rfl (by kernel_rfl) ?_
          | (refine wpList_store_row _ rfl rfl _ _ 37 rfl g2 37 _ (tokC t) rfl rfl HI.out.two rfl (tokC_one t) (by kernel_rfl) ?_; intro W' hr' hg'))
        exact HEND.out HEQ.out _ _ hg' hr' rfl
    · have hd1 : decide (F ≤ z) = false := by simpa using hc1
      have HEQ := Lib.hid (HI.out.upto.done (by rw [← HF.out]; omega))
      go_wp2_with (first
        | refine wpList_load_row _ rfl _ 37 rfl g4 37 (tokC t) _ rfl HI.out.four Try.underlying37 rfl (by kernel_rfl) ?_
        | (refine wpList_store_row _ rfl rfl _ _ 37 rfl g2 37 _ (tokC t) rfl rfl HI.out.two rfl (tokC_one t) (by kernel_rfl) ?_; intro W' hr' hg'))
      exact HEND.out HEQ.out _ _ hg' hr' rfl
end Go.Proofs.Ytibofgokdjbomaa
