/-
  aead.Open over this program.
-/
import Derived.Test.YtjcbdplbekecjaaAeSeal
import Derived.Test.YtjcbdplbekecjaaDerSame
namespace Go.Proofs.Ytjcbdplbekecjaa
open Go.RowKit

section
variable {o : Oper} {a : Act} {w : World}
theorem ex_all16 {x : Operand} {g : Nat} (h : o.op = .slice 37 x none none none) (hx : a.eval x = .pointer (some ⟨g, 0, none⟩)) : (execOp a.eval o).run Try.prog w = .ok (.value (.slice (some ⟨g, 0, none⟩) 16 16)) w := by
  simp only [execOp, h, hx]
  simp [Instr.sliceAt, go_sem, Instr.sliceBounds, Addr.add]
theorem ex_from {x y : Operand} {ad : Addr} {n c k : Nat} (h : o.op = .slice 24 x (some y) none none) (hx : a.eval x = .slice (some ad) n c) (hy : a.eval y = .int .i64 (k : Int)) (hk : k ≤ n) (hc : k < c) :
    (execOp a.eval o).run Try.prog w = .ok (.value (.slice (some (ad.add k)) (n - k) (c - k))) w := by
  have h1 : (k : Int) ≤ (n : Int) := by omega
  have h3 : ¬ c = k := by omega
  simp only [execOp, h, hx, hy, Option.map_some, Option.map_none]
  simp [go_sem, h1, h3]
theorem ex_not {x : Operand} {b : Bool} (h : o.op = .unOp .not 4 x) (hx : Is (.bool b) (a.eval x) w) : (execOp a.eval o).run Try.prog w = .ok (.value (.bool (!b))) w := by
  have hx' : a.eval x = .bool b := hx
  simp only [execOp, h, hx']
  simp [go_sem]
end

/-- What Open answers: too few bytes; another tag; a text. -/
def OpenOut (key nonce h s : List UInt8) (w : World) (e : Ending) (w' : World) : Prop :=
  w.grownBy w' none ∧ ((s.length < 16 ∧ e = .returned (.tuple #[.slice none 0 0, .int .i64 2])) ∨
    (16 ≤ s.length ∧ tagA key nonce h (s.take (s.length - 16)) ≠ s.drop (s.length - 16) ∧ e = .returned (.tuple #[.slice none 0 0, .int .i64 8])) ∨
    (16 ≤ s.length ∧ tagA key nonce h (s.take (s.length - 16)) = s.drop (s.length - 16) ∧ ∃ v, e = .returned (.tuple #[v, .int .i64 0]) ∧ IsX (xs key 1#32 nonce (s.take (s.length - 16))) v w'))

theorem open_short (key : List UInt8) (nonce : List UInt8) (v1 : Value) (A : Option Addr) (n c : Nat) (h s : List UInt8) (w : World) (hr2 : Rd w (.slice A n c) (bytesV s)) (hn16 : n < 16) :
    Calls Try.prog 11 #[.agg (bytesV key).toArray, .agg (bytesV nonce).toArray, v1, .slice A n c] w (OpenOut key nonce h s w) := by
  have hl := hr2.len.1
  rw [bytesV_len] at hl
  have HL := Lib.hid hl
  have HN := Lib.hid hn16
  have hdec : decide (((n : Int) - 16) < 0) = true := by simp; omega
  have hw : IntKind.i64.wrap ((n : Int) - 16) = (n : Int) - 16 := by rw [IntKind.wrap_i64]; omega
  have HG := Lib.hid (show w.grownBy ((w.alloc (.cells (bytesV key).toArray 22)).alloc (.cells (bytesV nonce).toArray 23)) none from grown_alloc (grown_alloc (grown_refl _ _) _) _)
  clear hr2 hl
  go_enter Try.func11, Try.ntmps11
  go_wp2
  refine bodyPost_ret (results_tmp2 rfl _ _ _) rfl ?_
  exact ⟨HG.out, .inl ⟨by rw [HL.out]; exact HN.out, rfl⟩⟩

set_option maxHeartbeats 4000000 in
set_option maxRecDepth 100000 in
theorem open_long (key : List UInt8) (hk : key.length = 32) (nonce : List UInt8) (hn : nonce.length = 12) (v1 : Value) (ad : Addr) (m c : Nat) (h s : List UInt8) (w : World) (hr1 : Rd w v1 (bytesV h)) (hr2 : Rd w (.slice (some ad) (m + 16) c) (bytesV s)) (hh : h.length ≤ 40000000000) (hm : m ≤ 40000000000) :
    Calls Try.prog 11 #[.agg (bytesV key).toArray, .agg (bytesV nonce).toArray, v1, .slice (some ad) (m + 16) c] w (OpenOut key nonce h s w) := by
  generalize hG : w.heap.size = G
  have HG := Lib.hid hG
  have HK := Lib.hid hk
  have HN := Lib.hid hn
  have hsl := hr2.len.1
  rw [bytesV_len] at hsl
  have HSL := Lib.hid hsl
  have HKL := Lib.hid (show (bytesV key).length = 32 by rw [bytesV_len, hk])
  have HNL := Lib.hid (show (bytesV nonce).length = 12 by rw [bytesV_len, hn])
  obtain ⟨W0, hW0⟩ : ∃ W, (w.alloc (.cells (bytesV key).toArray 22)).alloc (.cells (bytesV nonce).toArray 23) = W := ⟨_, rfl⟩
  have R0 := Lib.hid (show Row W0 G 22 (bytesV key) by rw [← hW0]; exact (Row.newAt w _ (bytesV key) hG).alloc _)
  have R1 := Lib.hid (show Row W0 (G + 1) 23 (bytesV nonce) by rw [← hW0]; exact Row.newAt _ _ (bytesV nonce) (by simp [hG]))
  have HGR := Lib.hid (show w.grownBy W0 none by rw [← hW0]; exact grown_alloc (grown_alloc (grown_refl _ _) _) _)
  have hmc := hr2.len.2.1
  have hcm := hr2.len.2.2
  have HC := Lib.hid (And.intro hmc hcm)
  have HT := Lib.hid (show Rd w (.slice (some ad) m m) (bytesV (s.take m)) by
    have := hr2.take (n := m) (d := m) (by omega) (Nat.le_refl _) (by omega)
    rwa [show (bytesV s).take m = bytesV (s.take m) by simp [bytesV, List.map_take]] at this)
  have HD := Lib.hid (show Rd w (.slice (some (ad.add m)) 16 (c - m)) (bytesV (s.drop m)) by
    have := hr2.drop (n := m) (by omega)
    rw [show (bytesV s).drop m = bytesV (s.drop m) by simp [bytesV, List.map_drop], show m + 16 - m = 16 by omega] at this
    exact this)
  have HTL := Lib.hid (show (s.take m).length = m by rw [List.length_take, hsl]; omega)
  have HR1 := Lib.hid hr1
  have HH := Lib.hid hh
  have HM := Lib.hid hm
  have hw : wrap64 (m : Int) = (m : Int) := by unfold wrap64; omega
  have hmc2 : m ≤ c := by omega
  clear hk hn hr1 hr2 hh hsl hmc hcm hm
  go_enter Try.func11, Try.ntmps11
  go_wp2_with (first
    | refine wpList_load_row _ rfl _ 22 rfl G 22 (bytesV key) _ rfl R0.out Try.underlying22 rfl (by rw [HKL.out]; kernel_rfl) ?_
    | refine wpList_load_row _ rfl _ 23 rfl (G + 1) 23 (bytesV nonce) _ rfl R1.out Try.underlying23 rfl (by rw [HNL.out]; kernel_rfl) ?_)
  clear hG hW0
  refine (tagOf_any key HK.out nonce HN.out v1 _ h (s.take m) W0 (HR1.out.grown0 HGR.out) (HT.out.grown0 HGR.out) HH.out (by rw [HTL.out]; exact HM.out)).mono ?_
  rintro e w1 ⟨rfl, hg1⟩
  have S0 := Lib.hid (R0.out.grown0 hg1)
  have S1 := Lib.hid (R1.out.grown0 hg1)
  have HG1 := Lib.hid (HGR.out.trans hg1)
  have HL := Lib.hid (show (bytesV (tagA key nonce h (s.take m))).length = 16 by rw [bytesV_len, tagA_len])
  have HO := Lib.hid (fun y hy => bytesV_one (tagA key nonce h (s.take m)) y hy)
  have HTA := Lib.hid (show tagA key nonce h (s.take (s.length - 16)) = tagA key nonce h (s.take m) ∧ s.drop (s.length - 16) = s.drop m ∧ s.take (s.length - 16) = s.take m ∧ 16 ≤ s.length by
    rw [HSL.out, show m + 16 - 16 = m by omega]
    exact ⟨rfl, rfl, rfl, by omega⟩)
  generalize tagA key nonce h (s.take m) = T at *
  clear R0 R1 HGR hg1 HR1 HH
  go_wp2_with (refine wpList_store_row _ rfl rfl _ _ 37 rfl w1.heap.size 37 (noughts8 16) (bytesV T) rfl rfl (Row.new w1 37 (noughts8 16)) (by rw [HL.out]; rfl) HO.out (by rw [HL.out]; kernel_rfl) ?_; intro w3 hr3 hg3)
  have HWW := Lib.hid HG1.out.size
  have HG3 := Lib.hid (grown_own (grown_alloc HG1.out _) hg3 HWW.out)
  have hlt0 := S0.out.lt
  have hlt1 := S1.out.lt
  have V0 := Lib.hid ((S0.out.alloc _).grown hg3 (by simp; omega))
  have V1 := Lib.hid ((S1.out.alloc _).grown hg3 (by simp; omega))
  have V2 := Lib.hid hr3
  clear hlt0 hlt1 S0 S1 HG1 hg3 hr3 HWW
  refine wp_region_walk3 6 [] dis_nil (by kernel_rfl) (by kernel_rfl) (by kernel_rfl) ?_
  simp only [List.take_succ_cons, List.take_zero, List.drop_succ_cons, List.drop_zero]
  refine Walk.val (G := IsB T) (stays_bytes _ _) rfl rfl (fun a w hm hd => ⟨wanted_plain rfl, _, ex_all16 rfl (by rw [hm.outer 12 (by kernel_rfl)]; rfl), (V2.out.grown0 hm.grow.none2).rds 16 16 HL.out (by decide) (by decide)⟩) ?_
  refine Walk.val (G := Is (.slice (some ad) (m + 16) c)) (stays_is _ _) rfl rfl (fun a w hm hd => ⟨wanted_plain rfl, _, ex_move rfl, (by rw [hm.outer 3 (by kernel_rfl)]; rfl)⟩) ?_
  refine Walk.val (G := Is (.int .i64 (m : Int))) (stays_is _ _) rfl rfl (fun a w hm hd => ⟨wanted_plain rfl, _, ex_move rfl, (by rw [hm.outer 10 (by kernel_rfl)]; rfl)⟩) ?_
  refine Walk.val (G := IsB (s.drop m)) (stays_bytes _ _) rfl rfl (fun a w hm hd => ⟨wanted_plain rfl, _, ex_from rfl (hd.at_ 1 rfl rfl rfl rfl) (hd.at_ 2 rfl rfl rfl rfl) (Nat.le_add_right _ _) (by have := HC.out; omega), by
    rw [show m + 16 - m = 16 by omega]
    exact HD.out.grown0 (HG3.out.trans hm.grow.none2)⟩) ?_
  refine Walk.call (G := Is (.bool (decide (T = s.drop m)))) (stays_is _ _) rfl 21 rfl (fun a w hm ha hd => ⟨wanted_plain rfl, _, ex_call2 Try.func21 (by kernel_rfl) (by kernel_rfl) rfl, by
    have h0 : IsB T (a.eval (.tmp 27)) w := hd.at_ 0 rfl rfl rfl rfl
    have h1 : IsB (s.drop m) (a.eval (.tmp 30)) w := hd.at_ 3 rfl rfl rfl rfl
    obtain ⟨A0, c0, e0⟩ := h0.form
    obtain ⟨A1, c1, e1⟩ := h1.form
    rw [e0] at h0 ⊢
    rw [e1] at h1 ⊢
    exact Val.made (same_any _ _ _ T _ _ _ (s.drop m) w h0 h1 (by rw [HL.out]; decide) (by rw [bytesV_len, List.length_drop, HSL.out]; omega))⟩) ?_
  refine Walk.val (G := Is (.bool (!decide (T = s.drop m)))) (stays_is _ _) rfl rfl (fun a w hm hd => ⟨wanted_plain rfl, _, ex_not rfl (hd.at_ 4 rfl rfl rfl rfl), rfl⟩) ?_
  intro a9 V hm9 hall
  have f32 : a9.eval (.tmp 32) = .bool (!decide (T = s.drop m)) := hall 5 _ _ rfl rfl
  have hfr := hm9.frame
  simp only [List.take_succ_cons, List.take_zero, List.filterMap_cons, List.filterMap_nil, List.foldl_cons, List.foldl_nil] at hfr
  rw [f32] at hfr
  have hg9 : w3.grownBy V none := GrownX.none2 hm9.grow
  generalize a9.eval (.tmp 27) = e27 at hfr
  generalize a9.eval (.tmp 28) = e28 at hfr
  generalize a9.eval (.tmp 29) = e29 at hfr
  generalize a9.eval (.tmp 30) = e30 at hfr
  generalize a9.eval (.tmp 31) = e31 at hfr
  have U0 := Lib.hid (V0.out.grown0 hg9)
  have U1 := Lib.hid (V1.out.grown0 hg9)
  have HG9 := Lib.hid (HG3.out.trans hg9)
  clear V0 V1 V2 HG3 hg9 hall hm9 f32
  unfold wpList
  rw [hfr]
  clear hfr
  by_cases heq : T = s.drop m
  · have hde : decide (T = s.drop m) = true := by rw [decide_eq_true_iff]; exact heq
    have HEQ := Lib.hid heq
    rw [hde]
    clear heq hde
    go_simp
    go_wp2_with (first
      | refine wpList_load_row _ rfl _ 22 rfl G 22 (bytesV key) _ rfl U0.out Try.underlying22 rfl (by rw [HKL.out]; kernel_rfl) ?_
      | refine wpList_load_row _ rfl _ 23 rfl (G + 1) 23 (bytesV nonce) _ rfl U1.out Try.underlying23 rfl (by rw [HNL.out]; kernel_rfl) ?_)
    refine (xor_one key HK.out nonce HN.out _ (s.take m) V (HT.out.grown0 HG9.out) (by rw [HTL.out]; have := HM.out; omega)).mono ?_
    rintro e w8 ⟨v8, rfl, hg8, hx8⟩
    have HF := Lib.hid (And.intro hg8 hx8)
    clear hg8 hx8
    go_wp2
    refine bodyPost_ret (results_tmp2 rfl _ _ _) rfl ?_
    obtain ⟨h1, h2, h3, h4⟩ := HTA.out
    refine ⟨HG9.out.trans HF.out.1, .inr (.inr ⟨h4, by rw [h1, h2]; exact HEQ.out, _, rfl, ?_⟩)⟩
    rw [h3]
    exact HF.out.2
  · have hde : decide (T = s.drop m) = false := by rw [decide_eq_false_iff_not]; exact heq
    have HEQ := Lib.hid heq
    rw [hde]
    clear heq hde
    go_simp
    go_wp2
    refine bodyPost_ret (results_tmp2 rfl _ _ _) rfl ?_
    obtain ⟨h1, h2, h3, h4⟩ := HTA.out
    exact ⟨HG9.out, .inr (.inl ⟨h4, by rw [h1, h2]; exact HEQ.out, rfl⟩)⟩

theorem open_any (key : List UInt8) (hk : key.length = 32) (nonce : List UInt8) (hn : nonce.length = 12) (v1 v2 : Value) (h s : List UInt8) (w : World) (hr1 : Rd w v1 (bytesV h)) (hr2 : Rd w v2 (bytesV s)) (hh : h.length ≤ 40000000000) (hs : s.length ≤ 40000000000) :
    Calls Try.prog 11 #[.agg (bytesV key).toArray, .agg (bytesV nonce).toArray, v1, v2] w (OpenOut key nonce h s w) := by
  obtain ⟨A, c, rfl⟩ := hr2.form
  rw [bytesV_len] at hr2 ⊢
  by_cases h16 : s.length < 16
  · exact open_short key nonce v1 A s.length c h s w hr2 h16
  · obtain ⟨ad, rfl, _⟩ := hr2.cells (by intro e; have := congrArg List.length e; rw [bytesV_len] at this; simp at this; simp [this] at h16)
    obtain ⟨m, hm⟩ : ∃ m, s.length = m + 16 := ⟨s.length - 16, by omega⟩
    rw [hm] at hr2 ⊢
    exact open_long key hk nonce hn v1 ad m c h s w hr1 hr2 hh (by omega)
end Go.Proofs.Ytjcbdplbekecjaa
