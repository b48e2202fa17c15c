/-
  The document's own Begin, Bit and Even of layer 10, over this program.
-/
import Derived.Test.YtohndlfekecfoaaRcoPut
namespace Go.Proofs.Ytohndlfekecfoaa
set_option maxRecDepth 1000000
open Go.RowKit

/-- What reads as bytes lies in no block without a byte. -/
theorem Rd.notIn {W : World} {g : Nat} {t : TypeId} {cs : List Value} {v : Value} {l : List UInt8} (h : Rd W v (bytesV l)) (hr : Row W g t cs) (hcs : ∀ z, Value.int .u8 z ∉ cs) (hl : bytesV l ≠ []) : v.ownBlock ≠ some g := by
  obtain ⟨A, c, rfl, h1, h2, h3⟩ := h
  obtain ⟨ad, rfl, hc⟩ := h3 hl
  intro e
  have hb : ad.block = g := by simpa [Value.ownBlock] using e
  cases l with
  | nil => exact hl rfl
  | cons x l =>
    have h0 := hc 0 _ rfl
    unfold World.cell? at h0
    rw [add_block, hb, hr] at h0
    simp only at h0
    split at h0
    · cases h0
    · rw [List.getElem?_toArray] at h0
      exact hcs _ (List.mem_of_getElem? h0)
theorem Rd.keepT {W W' : World} {g : Nat} {t : TypeId} {cs : List Value} {v : Value} {l : List UInt8} (h : Rd W v (bytesV l)) (hr : Row W g t cs) (hcs : ∀ z, Value.int .u8 z ∉ cs) (hg : W.grownBy W' (some g)) : Rd W' v (bytesV l) :=
  h.keepE (fun he b hb hlt => hg.block b hlt (fun e => by cases e; exact h.notIn hr hcs he hb))

set_option maxHeartbeats 4000000 in
theorem rbegin_any (w : World) : Calls Try.prog 7 #[] w (CVal (.slice none 0 0) [] beginS w) := by
  obtain ⟨gx, hgx⟩ : ∃ g, w.heap.size = g := ⟨_, rfl⟩
  have HZ := Lib.hid (Row.newAt w 30 [.slice none 0 0, .int .i64 0, .int .i64 0] hgx)
  have HG := Lib.hid hgx
  go_enter Try.func7, Try.ntmps7
  go_wp2_with (refine wpList_store_row _ rfl rfl _ _ 30 rfl gx 30 _ [.slice none 0 0, .int .i64 0, .int .i64 4294967295] rfl rfl HZ.out rfl (by simp [Value.oneCell']) (by kernel_rfl) ?_; intro w5 hr5 hg5)
  refine bodyPost_ret (v := cV (.slice none 0 0) beginS) (results_row Try.results7 gx 30 _ _ rfl hr5 Try.underlying30 rfl (by kernel_rfl)) rfl ?_
  exact ⟨_, rfl, Rd.nil _, grown_own (grown_alloc (grown_refl _ _) _) hg5 (by have := HG.out; omega), fun h => absurd rfl h⟩

set_option maxRecDepth 1000000 in
set_option maxHeartbeats 4000000 in
theorem rbit_any (v : Value) (s : Cst) (c : Nat) (b : Bool) (w : World) (hr : Rd w v (bytesV s.out)) (hs : Okc s) (hc : Okn c) (hl : s.out.length ≤ 100000) :
    Calls Try.prog 9 #[cV v s, .int .i64 (c : Int), .int .i64 (b.toNat : Int)] w (CVal v s.out (putS s (s.width / 2048 * c) b) w) := by
  have HB := Lib.hid (bound_ok hs hc : Okb s (s.width / 2048 * c))
  obtain ⟨A, k, rfl⟩ := hr.form
  rw [bytesV_len] at *
  have ht : (s.width : Int).tdiv 2048 = ((s.width / 2048 : Nat) : Int) := by rw [Int.tdiv_eq_ediv_of_nonneg (by omega)]; simp
  have hm := hs.most
  have HS := Lib.hid hs
  have HL := Lib.hid hl
  obtain ⟨S, hS⟩ : ∃ S, putS s (s.width / 2048 * c) b = S := ⟨_, rfl⟩
  rw [hS]
  have HP := Lib.hid (fun (w' : World) (hr' : Rd w' (.slice A s.out.length k) (bytesV s.out)) => rput (.slice A s.out.length k) s (s.width / 2048 * c) b w' hr' HS.out HB.out HL.out)
  rw [hS] at HP
  clear hS
  have hmul : ((s.width / 2048 : Nat) : Int) * (c : Int) = ((s.width / 2048 * c : Nat) : Int) := by simp
  have hB : s.width / 2048 * c < 4294967296 := by have := HB.out.most; omega
  have hD : s.width / 2048 < 4294967296 := by omega
  clear hc
  generalize s.width / 2048 * c = B at *
  generalize s.width / 2048 = d at *
  obtain ⟨gx, hgx⟩ : ∃ g, w.heap.size = g := ⟨_, rfl⟩
  obtain ⟨W0, hW0⟩ : ∃ W, (w.alloc (.cells #[.slice A s.out.length k, .int .i64 (s.low : Int), .int .i64 (s.width : Int)] 30)).alloc (.cells #[.slice none 0 0, .int .i64 0, .int .i64 0] 30) = W := ⟨_, rfl⟩
  have R0 := show Row W0 gx 30 [.slice A s.out.length k, .int .i64 (s.low : Int), .int .i64 (s.width : Int)] by rw [← hW0]; exact (Row.newAt w _ [.slice A s.out.length k, .int .i64 (s.low : Int), .int .i64 (s.width : Int)] hgx).alloc _
  have Z0 := show Row W0 (gx + 1) 30 [.slice none 0 0, .int .i64 0, .int .i64 0] by rw [← hW0]; exact Row.newAt _ _ [.slice none 0 0, .int .i64 0, .int .i64 0] (by simp [hgx])
  have hG0 : w.grownBy W0 none := by rw [← hW0]; exact grown_alloc (grown_alloc (grown_refl _ _) _) _
  have HG0 := Lib.hid hG0
  have HZ := Lib.hid Z0
  have HRW := Lib.hid R0
  have HPW := Lib.hid (HP.out W0 (hr.grown0 hG0))
  have c2 := R0.cell (j := 2) rfl
  have HGX := Lib.hid hgx
  clear hr hs hl HP HB R0 Z0 hG0
  unfold cV at *
  generalize b.toNat = bn at *
  go_enter Try.func9, Try.ntmps9
  go_wp2_with (refine wpList_load_row _ rfl _ _ rfl gx 30 _ _ rfl HRW.out Try.underlying30 rfl (by kernel_rfl) ?_)
  refine (HPW.out).mono ?_
  clear HPW
  rintro e w2 ⟨v', rfl, hrd, hg, hsrc⟩
  obtain ⟨A2, k2, rfl⟩ := hrd.form
  rw [bytesV_len] at *
  have HZ2 := Lib.hid (HZ.out.grown0 hg)
  have HRD := Lib.hid hrd
  have HSRC := Lib.hid (show S.out ≠ [] → ∀ kk, (Value.slice A2 S.out.length k2).ownBlock = some kk → (s.out ≠ [] ∧ (Value.slice A s.out.length k).ownBlock = some kk) ∨ w.heap.size ≤ kk from fun he kk hk => (hsrc he kk hk).imp_right (Nat.le_trans HG0.out.size))
  have HG := Lib.hid (HG0.out.trans hg)
  clear hrd hg hsrc HZ HG0 HRW c2
  unfold cV
  go_wp2_with (refine wpList_store_row _ rfl rfl _ _ 30 rfl (gx + 1) 30 _ [.slice A2 S.out.length k2, .int .i64 (S.low : Int), .int .i64 (S.width : Int)] rfl rfl HZ2.out rfl (by simp [Value.oneCell']) (by kernel_rfl) ?_; intro w5 hr5 hg5)
  refine bodyPost_ret (v := cV (.slice A2 S.out.length k2) S) (results_row Try.results9 (gx + 1) 30 _ _ rfl hr5 Try.underlying30 rfl (by kernel_rfl)) rfl ?_
  exact ⟨_, rfl, HRD.out.keepT HZ2.out (by simp) hg5, grown_own HG.out hg5 (by have := HGX.out; omega), HSRC.out⟩

set_option maxRecDepth 1000000 in
set_option maxHeartbeats 4000000 in
theorem reven_any (v : Value) (s : Cst) (b : Bool) (w : World) (hr : Rd w v (bytesV s.out)) (hs : Okc s) (hl : s.out.length ≤ 100000) :
    Calls Try.prog 12 #[cV v s, .int .i64 (b.toNat : Int)] w (CVal v s.out (putS s (s.width / 2) b) w) := by
  have HB := Lib.hid (even_ok hs : Okb s (s.width / 2))
  obtain ⟨A, k, rfl⟩ := hr.form
  rw [bytesV_len] at *
  have ht : (s.width : Int).tdiv 2 = ((s.width / 2 : Nat) : Int) := by rw [Int.tdiv_eq_ediv_of_nonneg (by omega)]; simp
  have hm := hs.most
  have HS := Lib.hid hs
  have HL := Lib.hid hl
  obtain ⟨S, hS⟩ : ∃ S, putS s (s.width / 2) b = S := ⟨_, rfl⟩
  rw [hS]
  have HP := Lib.hid (fun (w' : World) (hr' : Rd w' (.slice A s.out.length k) (bytesV s.out)) => rput (.slice A s.out.length k) s (s.width / 2) b w' hr' HS.out HB.out HL.out)
  rw [hS] at HP
  clear hS
  have hB : s.width / 2 < 4294967296 := by omega
  generalize s.width / 2 = B at *
  obtain ⟨gx, hgx⟩ : ∃ g, w.heap.size = g := ⟨_, rfl⟩
  obtain ⟨W0, hW0⟩ : ∃ W, (w.alloc (.cells #[.slice A s.out.length k, .int .i64 (s.low : Int), .int .i64 (s.width : Int)] 30)).alloc (.cells #[.slice none 0 0, .int .i64 0, .int .i64 0] 30) = W := ⟨_, rfl⟩
  have R0 := show Row W0 gx 30 [.slice A s.out.length k, .int .i64 (s.low : Int), .int .i64 (s.width : Int)] by rw [← hW0]; exact (Row.newAt w _ [.slice A s.out.length k, .int .i64 (s.low : Int), .int .i64 (s.width : Int)] hgx).alloc _
  have Z0 := show Row W0 (gx + 1) 30 [.slice none 0 0, .int .i64 0, .int .i64 0] by rw [← hW0]; exact Row.newAt _ _ [.slice none 0 0, .int .i64 0, .int .i64 0] (by simp [hgx])
  have hG0 : w.grownBy W0 none := by rw [← hW0]; exact grown_alloc (grown_alloc (grown_refl _ _) _) _
  have HG0 := Lib.hid hG0
  have HZ := Lib.hid Z0
  have HRW := Lib.hid R0
  have HPW := Lib.hid (HP.out W0 (hr.grown0 hG0))
  have c2 := R0.cell (j := 2) rfl
  have HGX := Lib.hid hgx
  clear hr hs hl HP HB R0 Z0 hG0
  unfold cV at *
  generalize b.toNat = bn at *
  go_enter Try.func12, Try.ntmps12
  go_wp2_with (refine wpList_load_row _ rfl _ _ rfl gx 30 _ _ rfl HRW.out Try.underlying30 rfl (by kernel_rfl) ?_)
  refine (HPW.out).mono ?_
  clear HPW
  rintro e w2 ⟨v', rfl, hrd, hg, hsrc⟩
  obtain ⟨A2, k2, rfl⟩ := hrd.form
  rw [bytesV_len] at *
  have HZ2 := Lib.hid (HZ.out.grown0 hg)
  have HRD := Lib.hid hrd
  have HSRC := Lib.hid (show S.out ≠ [] → ∀ kk, (Value.slice A2 S.out.length k2).ownBlock = some kk → (s.out ≠ [] ∧ (Value.slice A s.out.length k).ownBlock = some kk) ∨ w.heap.size ≤ kk from fun he kk hk => (hsrc he kk hk).imp_right (Nat.le_trans HG0.out.size))
  have HG := Lib.hid (HG0.out.trans hg)
  clear hrd hg hsrc HZ HG0 HRW c2
  unfold cV
  go_wp2_with (refine wpList_store_row _ rfl rfl _ _ 30 rfl (gx + 1) 30 _ [.slice A2 S.out.length k2, .int .i64 (S.low : Int), .int .i64 (S.width : Int)] rfl rfl HZ2.out rfl (by simp [Value.oneCell']) (by kernel_rfl) ?_; intro w5 hr5 hg5)
  refine bodyPost_ret (v := cV (.slice A2 S.out.length k2) S) (results_row Try.results12 (gx + 1) 30 _ _ rfl hr5 Try.underlying30 rfl (by kernel_rfl)) rfl ?_
  exact ⟨_, rfl, HRD.out.keepT HZ2.out (by simp) hg5, grown_own HG.out hg5 (by have := HGX.out; omega), HSRC.out⟩
end Go.Proofs.Ytohndlfekecfoaa
