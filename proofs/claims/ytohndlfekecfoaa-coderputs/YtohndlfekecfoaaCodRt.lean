/-
  coder's Reader over this program: take, Err, Left, Open.
-/
import Derived.Test.YtohndlfekecfoaaCodRd
namespace Go.Proofs.Ytohndlfekecfoaa
set_option maxRecDepth 1000000
open Go.RowKit

/-- What taking a bit answers. -/
def TOut (g : Nat) (vb : Option Nat) (p : Bool × Rst) (w : World) (e : Ending) (w' : World) : Prop := e = .returned (.int .i64 (p.1.toNat : Int)) ∧ Rs w' g vb p.2 ∧ w.grownBy w' (some g)
theorem Rs.set {w W : World} {g : Nat} {vb : Option Nat} {r : Rst} (h : Rs w g vb r) (num width : Nat) (v x y z : Value) (hv : Row w g 66 [v, x, y, z]) (hr : Row W g 66 [v, .int .u32 (num : Int), .int .u32 (width : Int), z]) (hg : w.grownBy W (some g)) :
    Rs W g vb ⟨r.rest, num, width, r.short⟩ := by
  obtain ⟨v1, hrow, hrd, hvb, hne⟩ := h
  have e : v1 = v := by
    have h1 := hrow.cell (j := 0) rfl
    have h2 := hv.cell (j := 0) rfl
    rw [h1] at h2
    exact Option.some.inj h2
  have e3 : Value.bool r.short = z := by
    have h1 := hrow.cell (j := 3) rfl
    have h2 := hv.cell (j := 3) rfl
    rw [h1] at h2
    exact Option.some.inj h2
  subst e e3
  exact ⟨v1, hr, hrd.grown hg (fun b hb => by rw [← hvb b hb]; exact hne), hvb, hne⟩
set_option maxHeartbeats 4000000 in
theorem take_at (g : Nat) (vb : Option Nat) (r : Rst) (bound : Nat) (w : World) (h : Rs w g vb r) (hs : Okr r) (h1 : 65536 ≤ bound) (h2 : bound + 65536 ≤ r.width) :
    Calls Try.prog 32 #[.pointer (some ⟨g, 0, none⟩), .int .u32 (bound : Int)] w (TOut g vb (takeR r bound) w) := by
  have HW := Lib.hid h
  have HS := Lib.hid hs
  obtain ⟨v, hrow, _⟩ := h
  have r1 := hrow.cell (j := 1) rfl
  have r2 := hrow.cell (j := 2) rfl
  have f1 := hrow.frozen 1
  have f2 := hrow.frozen 2
  have HR := Lib.hid hrow
  have hm := hs.most
  have hnw := hs.num
  clear hrow hs
  by_cases hlt : r.num < bound
  · have hd : decide ((r.num : Int) < (bound : Int)) = true := by simp; omega
    have hd' : decide (r.num < bound) = true := by simp; omega
    have HE := Lib.hid (show takeR r bound = (false, widR ⟨r.rest, r.num, bound, r.short⟩) by rw [takeR, if_pos hlt])
    rw [HE.out]
    have G1 := grown_set w g 2 (.int .u32 (bound : Int))
    have T1 := HW.out.set r.num bound _ _ _ _ HR.out (HR.out.set 2 (.int .u32 (bound : Int))) G1
    have HT := Lib.hid (rwiden_at g vb _ _ T1 (by show r.num ≤ bound; omega) h1 (by show bound < _; omega))
    have HG := Lib.hid G1
    clear G1 T1 h1 h2 hm hnw hlt
    go_enter Try.func32, Try.ntmps32
    go_wp2_with fail
    refine HT.out.mono ?_
    rintro e w2 ⟨rfl, h3, h4⟩
    have H2 := Lib.hid (And.intro h3 (grown_trans2 HG.out h4))
    clear h3 h4
    go_wp2
    go_ret
    exact ⟨rfl, H2.out.1, H2.out.2⟩
  · have hd : decide ((r.num : Int) < (bound : Int)) = false := by simp; omega
    have hd' : decide (r.num < bound) = false := by simp; omega
    have HE := Lib.hid (show takeR r bound = (true, widR ⟨r.rest, r.num - bound, r.width - bound, r.short⟩) by rw [takeR, if_neg hlt])
    rw [HE.out]
    obtain ⟨L, hL⟩ : ∃ L, L = r.num - bound := ⟨_, rfl⟩
    obtain ⟨M, hM⟩ : ∃ M, M = r.width - bound := ⟨_, rfl⟩
    have eL : (r.num : Int) - (bound : Int) = (L : Int) := by omega
    have eM : (r.width : Int) - (bound : Int) = (M : Int) := by omega
    have eL2 : (L : Int) % 4294967296 = (L : Int) := by omega
    have eM2 : (M : Int) % 4294967296 = (M : Int) := by omega
    have hLM : L ≤ M ∧ 65536 ≤ M ∧ M < 4294967296 := by omega
    rw [← hL, ← hM]
    have G1 := grown_trans2 (grown_set w g 2 (.int .u32 (M : Int))) (grown_set _ g 1 (.int .u32 (L : Int)))
    have R1 := (HR.out.set 2 (.int .u32 (M : Int))).set 1 (.int .u32 (L : Int))
    have T1 := HW.out.set L M _ _ _ _ HR.out R1 G1
    have HT := Lib.hid (rwiden_at g vb _ _ T1 hLM.1 hLM.2.1 hLM.2.2)
    have HG := Lib.hid G1
    clear G1 R1 T1 h1 h2 hm hnw hlt hL hM hLM
    go_enter Try.func32, Try.ntmps32
    go_wp2_with fail
    refine HT.out.mono ?_
    rintro e w2 ⟨rfl, h3, h4⟩
    have H2 := Lib.hid (And.intro h3 (grown_trans2 HG.out h4))
    clear h3 h4
    go_wp2
    go_ret
    exact ⟨rfl, H2.out.1, H2.out.2⟩

set_option maxHeartbeats 400000 in
theorem err_nil (w : World) : Calls Try.prog 19 #[.pointer none] w (SameW (.int .i64 2) w) := by
  have HO := Lib.hid (opened_nil w)
  go_enter Try.func19, Try.ntmps19
  go_wp2_with fail
  refine HO.out.mono ?_
  rintro e w1 ⟨rfl, hw1⟩
  obtain rfl := hw1.symm
  go_wp2
  go_ret
  exact ⟨rfl, rfl⟩
set_option maxHeartbeats 400000 in
theorem err_at (g : Nat) (vb : Option Nat) (r : Rst) (w : World) (h : Rs w g vb r) (hw : 0 < r.width) : Calls Try.prog 19 #[.pointer (some ⟨g, 0, none⟩)] w (SameW (.int .i64 (if r.short then 2 else 0)) w) := by
  have HO := Lib.hid (opened_at g vb r w h hw)
  obtain ⟨v, hrow, _⟩ := h
  have r3 := hrow.cell (j := 3) rfl
  clear hrow hw
  cases hs : r.short with
  | true =>
    rw [hs] at r3
    clear hs
    go_enter Try.func19, Try.ntmps19
    go_wp2_with fail
    refine HO.out.mono ?_
    rintro e w1 ⟨rfl, hw1⟩
    obtain rfl := hw1.symm
    go_wp2
    go_ret
    exact ⟨rfl, rfl⟩
  | false =>
    rw [hs] at r3
    clear hs
    go_enter Try.func19, Try.ntmps19
    go_wp2_with fail
    refine HO.out.mono ?_
    rintro e w1 ⟨rfl, hw1⟩
    obtain rfl := hw1.symm
    go_wp2
    go_ret
    exact ⟨rfl, rfl⟩
set_option maxHeartbeats 400000 in
theorem left_nil (w : World) : Calls Try.prog 20 #[.pointer none] w (SameW (.int .i64 0) w) := by
  go_enter Try.func20, Try.ntmps20
  go_wp2
  go_ret
  exact ⟨rfl, rfl⟩
set_option maxHeartbeats 400000 in
theorem left_at (g : Nat) (vb : Option Nat) (r : Rst) (w : World) (h : Rs w g vb r) : Calls Try.prog 20 #[.pointer (some ⟨g, 0, none⟩)] w (SameW (.int .i64 (r.rest.length : Int)) w) := by
  obtain ⟨v, hrow, hrd, _⟩ := h
  obtain ⟨A, c, rfl⟩ := hrd.form
  have r0 := hrow.cell (j := 0) rfl
  rw [bytesV_len] at r0
  clear hrow hrd
  generalize r.rest.length = n at *
  go_enter Try.func20, Try.ntmps20
  go_wp2
  go_ret
  exact ⟨rfl, rfl⟩

/-- What Open answers. -/
def OpOut (w : World) (b : List UInt8) (e : Ending) (w' : World) : Prop := ∃ g vb, e = .returned (.pointer (some ⟨g, 0, none⟩)) ∧ Rs w' g vb (openN 4 b) ∧ w.heap.size ≤ g ∧ (∀ k, vb = some k → w.heap.size ≤ k ∧ k < w'.heap.size) ∧ w.grownBy w' none
set_option maxHeartbeats 4000000 in
theorem open_any (v : Value) (b : List UInt8) (w : World) (hv : Rd w v (bytesV b)) (hl : b.length ≤ 1000000000) : Calls Try.prog 17 #[v] w (OpOut w b) := by
  have HC := Lib.hid (clone_bytes v b w hv hl)
  obtain ⟨A, c, rfl⟩ := hv.form
  clear hv hl
  go_enter Try.func17, Try.ntmps17
  go_wp2_with fail
  refine HC.out.mono ?_
  rintro e w1 ⟨u, rfl, ho, hg⟩
  obtain ⟨A1, c1, rfl⟩ := own_form ho
  have HO := Lib.hid (And.intro ho hg)
  obtain ⟨G, hG⟩ : ∃ G, G = w1.heap.size := ⟨_, rfl⟩
  obtain ⟨W2, hW2⟩ : ∃ W, w1.alloc (.cells #[.slice A1 b.length c1, .int .u32 0, .int .u32 4294967295, .bool false] 66) = W := ⟨_, rfl⟩
  have hlt : ∀ k, (Value.slice A1 b.length c1).ownBlock = some k → w.heap.size ≤ k ∧ k < w1.heap.size := fun k hk => ho.lt k hk
  have RS := Lib.hid (show Rs W2 G (Value.slice A1 b.length c1).ownBlock (openN 0 b) by
    rw [← hW2]
    exact ⟨_, Row.newAt w1 _ [.slice A1 b.length c1, .int .u32 0, .int .u32 4294967295, .bool false] hG.symm, (Rd.of_own ho).alloc _, fun k hk => hk, fun e => by have := (hlt _ e).2; omega⟩)
  have GW := Lib.hid (show w.grownBy W2 none by rw [← hW2]; exact grown_alloc hg _)
  have HLT := Lib.hid (show ∀ k, (Value.slice A1 b.length c1).ownBlock = some k → w.heap.size ≤ k ∧ k < G from fun k hk => by rw [hG]; exact hlt k hk)
  have HGG := Lib.hid (show w.heap.size ≤ G by rw [hG]; exact hg.size)
  clear ho hg hlt HC
  go_wp2
  rw [← hG]
  clear hG hW2
  go_loopw [8] (fun i W => ∃ k : Nat, k ≤ 4 ∧ i = .int .i64 k ∧ Rs W G (Value.slice A1 b.length c1).ownBlock (openN k b) ∧ w.grownBy W none) (fun i _ => 4 - (intOf i).toNat)
  case atStart => exact ⟨0, Nat.zero_le _, rfl, RS.out, GW.out⟩
  case round =>
    obtain ⟨k, hk, rfl, hrs, hgr⟩ := hrel
    by_cases hlt : k < 4
    · have hd : decide ((k : Int) < 4) = true := by simp; omega
      have HN := Lib.hid (next_at G _ (openN k b) wr hrs (by
        have h1 := (openN_ok k b).1
        have h2 : (256 : Nat) ^ k ≤ 256 ^ 3 := Nat.pow_le_pow_right (by decide) (by omega)
        omega))
      have HGR := Lib.hid hgr
      clear hrs hgr RS GW
      go_wp2_with fail
      refine HN.out.mono ?_
      rintro e w2 ⟨rfl, h1, h2⟩
      have HE := Lib.hid (And.intro h1 (grown_own HGR.out h2 HGG.out))
      clear h1 h2
      go_wp2
      go_roundw
      case rel => exact ⟨k + 1, by omega, by go_num, HE.out.1, HE.out.2⟩
      case measure => simp only [intOf]; omega
    · obtain rfl : k = 4 := by omega
      have HE := Lib.hid (And.intro hrs hgr)
      clear hrs hgr RS GW
      go_wp2
      go_ret
      exact ⟨G, _, rfl, HE.out.1, HGG.out, fun k hk => ⟨(HLT.out k hk).1, Nat.lt_trans (HLT.out k hk).2 HE.out.1.lt⟩, HE.out.2⟩
end Go.Proofs.Ytohndlfekecfoaa
