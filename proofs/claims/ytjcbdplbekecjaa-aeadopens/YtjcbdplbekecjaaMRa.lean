/-
  Several texts in one file.
-/
import Derived.Test.YtjcbdplbekecjaaAe
import Derived.Test.YtjcbdplbekecjaaAppBytes
import Derived.Test.YtjcbdplbekecjaaCommon
import Derived.Test.YtjcbdplbekecjaaOwnKeep
import Derived.Test.YtjcbdplbekecjaaMRc
import Derived.Test.YtjcbdplbekecjaaMRp
import Derived.Test.YtjcbdplbekecjaaRefFixed
import Derived.Test.YtjcbdplbekecjaaStepOps
/-
  The document's own up over this program: bytes, and noughts up to a multiple of sixteen.
-/
namespace Go.Proofs.Ytjcbdplbekecjaa
open Go.RowKit

set_option maxHeartbeats 1000000 in
theorem up_any (u : Value) (l : List UInt8) (w : World) (hr : Rd w u (bytesV l)) (hb : l.length ≤ 1000000) :
    Calls Try.prog 17 #[u] w (OutO w (upB l)) := by
  have HB := Lib.hid hb
  have HR := Lib.hid hr
  clear hr hb
  go_enter Try.func17, Try.ntmps17
  go_wp2_with (at_builtin; refine wpList_append_bytes _ rfl _ _ rfl w.heap.size _ 0 [] rfl (own_empty w _ (Nat.le_refl _)) _ l rfl (HR.out.grown0 (grown_alloc (grown_refl _ none) _)) (by have := HB.out; omega) (by simp) ?_)
  intro v1 w1 ho1 hg1 _
  have hgw : w.grownBy w1 none := grown_new (grown_alloc (grown_refl w none) _) hg1 (fun x e => by cases e; exact Nat.le_refl _)
  have HO1 := Lib.hid ho1
  have HG1 := Lib.hid hgw
  clear ho1 hg1 hgw
  go_wp2
  go_loopw [3] (fun v W => ∃ b : List UInt8, W.ownsRow w.heap.size 5 1 v b.length (bytesV b) ∧ w.grownBy W none ∧ upB b = upB l ∧ b.length ≤ 1000016) (fun v _ => match v with | .slice _ n _ => (16 - n % 16) % 16 | _ => 0)
  case atStart => exact ⟨l, HO1.out, HG1.out, rfl, by have := HB.out; omega⟩
  case round =>
    clear HO1 HG1
    obtain ⟨b, ho, hg, hup, hbl⟩ := hrel
    obtain ⟨A2, c2, rfl⟩ := own_form ho
    have HUP := Lib.hid hup
    have HG := Lib.hid hg
    have HO := Lib.hid ho
    clear hup hg ho
    by_cases h16 : b.length % 16 = 0
    · have hb0 : ((b.length : Int) % 16 != 0) = false := by simp; omega
      have H16 := Lib.hid h16
      clear h16
      go_wp2
      go_ret
      refine ⟨_, rfl, ?_, HG.out⟩
      rw [← HUP.out, upB_done b H16.out]
      exact HO.out
    · have hb0 : ((b.length : Int) % 16 != 0) = true := by simp; omega
      have H16 := Lib.hid h16
      have hga : wr.grownBy (wr.alloc (.cells #[.int .u8 0] 5)) none := grown_alloc (grown_refl _ _) _
      have hrd : Rd (wr.alloc (.cells #[.int .u8 0] 5)) (.slice (some ⟨wr.heap.size, 0, none⟩) 1 1) (bytesV [0]) := Rd.one wr (byteV 0) 5
      have HALL := Lib.hid (And.intro hrd (And.intro (own_keepN HO.out hga) (And.intro (HG.out.trans hga) (HG.out.trans hga).size)))
      clear h16 hga hrd
      go_wp2_with (at_builtin; refine wpList_append_bytes _ rfl _ _ rfl w.heap.size _ b.length _ rfl HALL.out.2.1 _ [0] rfl HALL.out.1 (by simp; omega) HALL.out.2.2.2 ?_)
      intro v' w3 ho3 hg3 _
      obtain ⟨A3, c3, rfl⟩ := own_form ho3
      rw [← bytesV_app] at ho3
      have HO3 := Lib.hid ho3
      have HG3 := Lib.hid (grown_new HALL.out.2.2.1 hg3 fun x hx => (HALL.out.2.1.lt x hx).1)
      clear ho3 hg3
      go_wp2
      go_roundw
      case rel => exact ⟨b ++ [0], by rw [List.length_append]; exact HO3.out, HG3.out, by rw [upB_more b H16.out]; exact HUP.out, by have := H16.out; rw [List.length_append, List.length_singleton]; omega⟩
      case measure => have := H16.out; simp; omega
end Go.Proofs.Ytjcbdplbekecjaa

/-
  The document's own Seal over this program.
-/
namespace Go.Proofs.Ytjcbdplbekecjaa
open Go.RowKit

theorem tagd_four (h x : List UInt8) : upB h ++ upB x ++ low 8 h.length ++ low 8 x.length = tagd h x := by
  unfold tagd
  rw [List.append_assoc (upB h ++ upB x)]

set_option maxHeartbeats 4000000 in
set_option maxRecDepth 100000 in
theorem rseal_any (v0 v1 v2 v3 : Value) (key : List UInt8) (hk : key.length = 32) (nonce : List UInt8) (hn : nonce.length = 12) (h t : List UInt8) (hh : h.length ≤ 200) (ht : t.length ≤ 200) (w : World) (r0 : Rd w v0 (bytesV key)) (r1 : Rd w v1 (bytesV nonce)) (r2 : Rd w v2 (bytesV h)) (r3 : Rd w v3 (bytesV t)) :
    Calls Try.prog 10 #[v0, v1, v2, v3] w (Out w (sealB key nonce h t)) := by
  obtain ⟨A2, c2, rfl⟩ := r2.form
  obtain ⟨A3, c3, rfl⟩ := r3.form
  rw [bytesV_len] at r2 r3 ⊢
  rw [bytesV_len]
  have HK := Lib.hid hk
  have HN := Lib.hid hn
  have HH := Lib.hid hh
  have HT := Lib.hid ht
  have H0 := Lib.hid r0
  have H1 := Lib.hid r1
  have H2 := Lib.hid r2
  have H3 := Lib.hid r3
  have HX := Lib.hid (show Calls Try.prog 16 #[v0, .int .i64 1, v1, .slice A3 t.length c3] w (OutO w (xs key 1#32 nonce t)) from rxor_own v0 v1 _ key hk 1#32 nonce hn t (by omega) w r0 r1 r3)
  have HXL := Lib.hid (xs_len key 1#32 nonce t)
  have HSB := Lib.hid (show sealB key nonce h t = xs key 1#32 nonce t ++ tagB (otk key nonce) (tagd h (xs key 1#32 nonce t)) from rfl)
  have hm1 : ((h.length : Nat) : Int) % 18446744073709551616 = (h.length : Int) := by omega
  have hm2 : ((t.length : Nat) : Int) % 18446744073709551616 = (t.length : Int) := by omega
  generalize xs key 1#32 nonce t = X at *
  clear hk hn hh ht r0 r1 r2 r3
  go_enter Try.func10, Try.ntmps10
  go_wp2_with fail
  refine HX.out.mono ?_
  rintro e w1 ⟨vx, rfl, ho1, hg1⟩
  have HXB := Lib.hid (fun b hb => (ho1.lt b hb).2)
  have HXA := Lib.hid (fun b hb => (ho1.lt b hb).1)
  have HOX := Lib.hid ho1
  have HG1 := Lib.hid hg1
  clear HX ho1 hg1
  go_wp2_with fail
  refine (up_any _ h w1 (H2.out.grown0 HG1.out) (by have := HH.out; omega)).mono ?_
  rintro e w2 ⟨vu, rfl, ho2, hg2⟩
  have HOX2 := Lib.hid (own_keepN HOX.out hg2)
  have HOU := Lib.hid ho2
  have HG2 := Lib.hid (HG1.out.trans hg2)
  have HW2 := Lib.hid hg2.size
  clear HOX ho2 hg2
  go_wp2_with fail
  refine (up_any _ X w2 (Rd.of_own HOX2.out) (by have := HXL.out; have := HT.out; omega)).mono ?_
  rintro e w3 ⟨vy, rfl, ho3, hg3⟩
  have HOX3 := Lib.hid (own_keepN HOX2.out hg3)
  have HOU3 := Lib.hid (own_keepN HOU.out hg3)
  have HRY := Lib.hid (Rd.of_own ho3)
  have HG3 := Lib.hid (HG2.out.trans hg3)
  have HW3 := Lib.hid (Nat.le_trans HW2.out hg3.size)
  have HU := Lib.hid (And.intro (upB_le h) (upB_le X))
  clear HOX2 HOU ho3 hg3 HW2
  go_wp2_with (at_builtin; refine wpList_append_bytes _ rfl _ _ rfl w1.heap.size _ (upB h).length _ rfl HOU3.out _ (upB X) rfl HRY.out (by have := HU.out; have := HXL.out; have := HT.out; have := HH.out; omega) HW3.out ?_)
  intro v4 w4 ho4 hg4 _
  rw [← bytesV_app, ← List.length_append] at ho4
  have HNX : Hid (∀ (row : Option Nat), (∀ b, row = some b → w1.heap.size ≤ b) → vx.ownBlock = none ∨ vx.ownBlock ≠ row) := Lib.hid (by
    intro row hrow
    cases hv : vx.ownBlock with
    | none => exact .inl rfl
    | some b => exact .inr (fun e => by have := HXB.out b hv; have := hrow b e.symm; omega))
  have HOX4 := Lib.hid (HOX3.out.kept hg4 (HNX.out _ fun b hb => (HOU3.out.lt b hb).1))
  have HG4 := Lib.hid (grown_new HG3.out hg4 fun b hb => by have := (HOU3.out.lt b hb).1; have := HG1.out.size; omega)
  have HO4 := Lib.hid ho4
  have HW4 := Lib.hid (Nat.le_trans HW3.out hg4.size)
  have HML := Lib.hid (show (upB h ++ upB X).length ≤ 600 by have := HU.out; have := HXL.out; have := HT.out; have := HH.out; rw [List.length_append]; omega)
  have HTD := Lib.hid (show upB h ++ upB X ++ low 8 h.length ++ low 8 t.length = tagd h X by rw [← HXL.out]; exact tagd_four h X)
  generalize upB h ++ upB X = M at *
  clear HOX3 HOU3 HRY HG3 HW3 ho4 hg4 HU
  go_wp2_with fail
  refine (refFixed_out h.length 8 w4 (by have := HH.out; omega)).mono ?_
  rintro e w5 ⟨v5, rfl, hr5, hg5, _⟩
  rw [show wid 8 = 8 from rfl] at hr5
  have HOX5 := Lib.hid (own_keepN HOX4.out hg5)
  have HO5 := Lib.hid (own_keepN HO4.out hg5)
  have HG5 := Lib.hid (HG4.out.trans hg5)
  have HW5 := Lib.hid (Nat.le_trans HW4.out hg5.size)
  have HR5 := Lib.hid hr5
  clear HOX4 HO4 HG4 HW4 hr5 hg5
  go_wp2_with (at_builtin; refine wpList_append_bytes _ rfl _ _ rfl w1.heap.size _ M.length _ rfl HO5.out _ (low 8 h.length) rfl HR5.out (by have := HML.out; rw [low_len]; omega) HW5.out ?_)
  intro v6 w6 ho6 hg6 _
  rw [← bytesV_app, ← List.length_append] at ho6
  have HOX6 := Lib.hid (HOX5.out.kept hg6 (HNX.out _ fun b hb => (HO5.out.lt b hb).1))
  have HG6 := Lib.hid (grown_new HG5.out hg6 fun b hb => by have := (HO5.out.lt b hb).1; have := HG1.out.size; omega)
  have HO6 := Lib.hid ho6
  have HW6 := Lib.hid (Nat.le_trans HW5.out hg6.size)
  have HML6 := Lib.hid (show (M ++ low 8 h.length).length ≤ 700 by have := HML.out; rw [List.length_append, low_len]; omega)
  generalize M ++ low 8 h.length = M6 at *
  clear HOX5 HO5 HG5 HW5 ho6 hg6 HR5
  go_wp2_with fail
  refine (refFixed_out t.length 8 w6 (by have := HT.out; omega)).mono ?_
  rintro e w7 ⟨v7, rfl, hr7, hg7, _⟩
  rw [show wid 8 = 8 from rfl] at hr7
  have HOX7 := Lib.hid (own_keepN HOX6.out hg7)
  have HO7 := Lib.hid (own_keepN HO6.out hg7)
  have HG7 := Lib.hid (HG6.out.trans hg7)
  have HW7 := Lib.hid (Nat.le_trans HW6.out hg7.size)
  have HR7 := Lib.hid hr7
  clear HOX6 HO6 HG6 HW6 hr7 hg7
  go_wp2_with (at_builtin; refine wpList_append_bytes _ rfl _ _ rfl w1.heap.size _ M6.length _ rfl HO7.out _ (low 8 t.length) rfl HR7.out (by have := HML6.out; rw [low_len]; omega) HW7.out ?_)
  intro v8 w8 ho8 hg8 _
  rw [← bytesV_app] at ho8
  have HOX8 := Lib.hid (HOX7.out.kept hg8 (HNX.out _ fun b hb => (HO7.out.lt b hb).1))
  have HG8 := Lib.hid (grown_new HG7.out hg8 fun b hb => by have := (HO7.out.lt b hb).1; have := HG1.out.size; omega)
  have HML8 := Lib.hid (show (M6 ++ low 8 t.length).length ≤ 800 by have := HML6.out; rw [List.length_append, low_len]; omega)
  rw [HTD.out] at ho8 HML8
  have HR8 := Lib.hid (Rd.of_own ho8)
  clear HOX7 HO7 HG7 HW7 ho8 hg8 HR7 HTD
  have HBK := Lib.hid (show Calls Try.prog 20 #[v0, .int .i64 0, v1] w8 (Out w8 (blok key 0#32 nonce)) from rblock_any v0 v1 key HK.out 0#32 nonce HN.out w8 (H0.out.grown0 HG8.out) (H1.out.grown0 HG8.out))
  go_wp2_with fail
  refine HBK.out.mono ?_
  rintro e w9 ⟨v9, rfl, hr9, hg9, _⟩
  obtain ⟨A9, c9, rfl⟩ := hr9.form
  have hb64 : (bytesV (blok key 0#32 nonce)).length = 64 := by rw [bytesV_len, blok_len]
  rw [hb64] at hr9
  rw [hb64]
  have hc9 : 64 ≤ c9 := hr9.len.2.1
  obtain ⟨ad9, rfl, _⟩ := hr9.cells (by intro e; rw [e] at hb64; simp at hb64)
  have ht9 := hr9.take (n := 32) (d := c9) (by decide) (by omega) (Nat.le_refl _)
  rw [show (bytesV (blok key 0#32 nonce)).take 32 = bytesV (otk key nonce) by simp [bytesV, List.map_take, otk]] at ht9
  have HT9 := Lib.hid ht9
  have HOX9 := Lib.hid (own_keepN HOX8.out hg9)
  have HG9 := Lib.hid (HG8.out.trans hg9)
  have HR9 := Lib.hid (HR8.out.grown0 hg9)
  have hc9' : 32 ≤ c9 := by omega
  clear HBK hr9 hg9 hb64 ht9 HOX8 HG8 HR8 hc9
  go_wp2_with fail
  refine (rtag_any _ _ (otk key nonce) _ (otk_len key nonce) (by have := HML8.out; omega) w9 HT9.out HR9.out).mono ?_
  rintro e w10 ⟨v10, rfl, hr10, hg10⟩
  have HOX10 := Lib.hid (own_keepN HOX9.out hg10)
  have HG10 := Lib.hid (HG9.out.trans hg10)
  have HR10 := Lib.hid hr10
  have HTL := Lib.hid (tagB_len (otk key nonce) (tagd h X))
  clear HOX9 HG9 HR9 HT9 hr10 hg10
  go_wp2_with (at_builtin; refine wpList_append_bytes _ rfl _ _ rfl w.heap.size _ X.length _ rfl HOX10.out _ _ rfl HR10.out (by have := HTL.out; have := HXL.out; have := HT.out; omega) HG10.out.size ?_)
  intro v11 w11 ho11 hg11 _
  rw [← bytesV_app] at ho11
  have HF := Lib.hid (And.intro ho11 (grown_new HG10.out hg11 fun b hb => (HOX10.out.lt b hb).1))
  clear ho11 hg11
  go_wp2
  go_ret
  obtain ⟨ho11, hg11⟩ := HF.out
  rw [HSB.out]
  exact ⟨_, rfl, Rd.of_own ho11, hg11, ho11.lt⟩
end Go.Proofs.Ytjcbdplbekecjaa

/-
  The document's own Open over this program.
-/
namespace Go.Proofs.Ytjcbdplbekecjaa
open Go.RowKit

/-- What it answers: too few bytes; another tag; a text. -/
def ROpenOut (key nonce h s : List UInt8) (w : World) (e : Ending) (w' : World) : Prop :=
  w.grownBy w' none ∧ ((s.length < 16 ∧ e = .returned (.tuple #[.slice none 0 0, .int .i64 2])) ∨
    (16 ≤ s.length ∧ tagA key nonce h (s.take (s.length - 16)) ≠ s.drop (s.length - 16) ∧ e = .returned (.tuple #[.slice none 0 0, .int .i64 8])) ∨
    (16 ≤ s.length ∧ tagA key nonce h (s.take (s.length - 16)) = s.drop (s.length - 16) ∧ ∃ v, e = .returned (.tuple #[v, .int .i64 0]) ∧ Rd w' v (bytesV (xs key 1#32 nonce (s.take (s.length - 16))))))

theorem ropen_short (v0 v1 v2 : Value) (A : Option Addr) (n c : Nat) (key nonce h s : List UInt8) (w : World) (hl : s.length = n) (hn16 : n < 16) :
    Calls Try.prog 12 #[v0, v1, v2, .slice A n c] w (ROpenOut key nonce h s w) := by
  have HL := Lib.hid hl
  have HN := Lib.hid hn16
  have hdec : decide ((n : Int) < 16) = true := by simp; omega
  clear hl hn16
  go_enter Try.func12, Try.ntmps12
  go_wp2
  refine bodyPost_ret (results_tmp2 rfl _ _ _) rfl ?_
  exact ⟨grown_refl _ _, .inl ⟨by rw [HL.out]; exact HN.out, rfl⟩⟩

set_option maxHeartbeats 4000000 in
set_option maxRecDepth 100000 in
theorem ropen_long (v0 v1 v2 : Value) (ad : Addr) (m c : Nat) (key : List UInt8) (hk : key.length = 32) (nonce : List UInt8) (hn : nonce.length = 12) (h s : List UInt8) (hh : h.length ≤ 200) (hm : m ≤ 200) (w : World) (r0 : Rd w v0 (bytesV key)) (r1 : Rd w v1 (bytesV nonce)) (r2 : Rd w v2 (bytesV h)) (r3 : Rd w (.slice (some ad) (m + 16) c) (bytesV s)) :
    Calls Try.prog 12 #[v0, v1, v2, .slice (some ad) (m + 16) c] w (ROpenOut key nonce h s w) := by
  have hsl := r3.len.1
  rw [bytesV_len] at hsl
  have hmc2 : m ≤ c := by have := r3.len.2.1; omega
  have ht := r3.take (n := m) (d := c) (by omega) hmc2 (Nat.le_refl _)
  rw [show (bytesV s).take m = bytesV (s.take m) by simp [bytesV, List.map_take]] at ht
  have hX : Calls Try.prog 16 #[v0, .int .i64 1, v1, .slice (some ad) m c] w (OutO w (xs key 1#32 nonce (s.take m))) := rxor_own v0 v1 _ key hk 1#32 nonce hn (s.take m) (by rw [List.length_take]; omega) w r0 r1 ht
  have HX := Lib.hid hX
  have HXL := Lib.hid (show (xs key 1#32 nonce (s.take m)).length = m by rw [xs_len, List.length_take]; omega)
  have hri := right_iff key nonce h s
  rw [hsl, show m + 16 - 16 = m by omega] at hri
  have HRI := Lib.hid hri
  have HSL := Lib.hid hsl
  have HK := Lib.hid hk
  have HN := Lib.hid hn
  have HH := Lib.hid hh
  have HM := Lib.hid hm
  have H0 := Lib.hid r0
  have H1 := Lib.hid r1
  have H2 := Lib.hid r2
  have H3 := Lib.hid r3
  have HTA := Lib.hid (show s.length - 16 = m ∧ 16 ≤ s.length by omega)
  have hdec : decide ((m : Int) + 16 < 16) = false := by simp; omega
  have hw : wrap64 (m : Int) = (m : Int) := by unfold wrap64; omega
  generalize hXX : xs key 1#32 nonce (s.take m) = X at *
  have HXX := Lib.hid hXX
  clear hX ht hk hn hh hm hsl r0 r1 r2 r3 hri hXX
  go_enter Try.func12, Try.ntmps12
  go_wp2_with fail
  refine HX.out.mono ?_
  rintro e w1 ⟨vx, rfl, ho1, hg1⟩
  have HR := Lib.hid (Rd.of_own ho1)
  have HG1 := Lib.hid hg1
  have D0 := Lib.hid (H0.out.grown0 hg1)
  have D1 := Lib.hid (H1.out.grown0 hg1)
  have D2 := Lib.hid (H2.out.grown0 hg1)
  have D3 := Lib.hid (H3.out.grown0 hg1)
  clear HX ho1 hg1 H0 H1 H2 H3
  go_wp2
  refine wp_region_walk3 9 [] dis_nil (by kernel_rfl) (by kernel_rfl) (by kernel_rfl) ?_
  simp only [List.take_succ_cons, List.take_zero, List.drop_succ_cons, List.drop_zero]
  refine Walk.val (G := IsB (key)) (stays_bytes _ _) rfl rfl (fun a w hm hd => ⟨wanted_plain rfl, st_move rfl (by rw [hm.outer 0 (by kernel_rfl)]; exact D0.out.grown0 hm.grow.none2)⟩) ?_
  refine Walk.val (G := IsB (nonce)) (stays_bytes _ _) rfl rfl (fun a w hm hd => ⟨wanted_plain rfl, st_move rfl (by rw [hm.outer 1 (by kernel_rfl)]; exact D1.out.grown0 hm.grow.none2)⟩) ?_
  refine Walk.val (G := IsB (h)) (stays_bytes _ _) rfl rfl (fun a w hm hd => ⟨wanted_plain rfl, st_move rfl (by rw [hm.outer 2 (by kernel_rfl)]; exact D2.out.grown0 hm.grow.none2)⟩) ?_
  refine Walk.val (G := IsB (X)) (stays_bytes _ _) rfl rfl (fun a w hm hd => ⟨wanted_plain rfl, st_move rfl (by rw [hm.outer 10 (by kernel_rfl)]; exact HR.out.grown0 hm.grow.none2)⟩) ?_
  refine Walk.call (G := IsB (sealB key nonce h X)) (stays_bytes _ _) rfl 10 rfl (fun a w hm ha hd => ⟨wanted_plain rfl, _, ex_call4 Try.func10 (by kernel_rfl) (by kernel_rfl) rfl, by
    have h0 : IsB (key) (a.eval (.tmp 22)) w := (hd.at_ 0 rfl rfl rfl rfl)
    have h1 : IsB (nonce) (a.eval (.tmp 23)) w := (hd.at_ 1 rfl rfl rfl rfl)
    have h2 : IsB (h) (a.eval (.tmp 24)) w := (hd.at_ 2 rfl rfl rfl rfl)
    have h3 : IsB (X) (a.eval (.tmp 25)) w := (hd.at_ 3 rfl rfl rfl rfl)
    exact Out.made (rseal_any _ _ _ _ key HK.out nonce HN.out h X HH.out (by rw [HXL.out]; exact HM.out) w h0 h1 h2 h3)⟩) ?_
  refine Walk.val (G := Is (.string ⟨(sealB key nonce h X).toArray⟩)) (stays_is _ _) rfl rfl (fun a w hm hd => ⟨wanted_plain rfl, st_str rfl (hd.at_ 4 rfl rfl rfl rfl)⟩) ?_
  refine Walk.val (G := IsB (s)) (stays_bytes _ _) rfl rfl (fun a w hm hd => ⟨wanted_plain rfl, st_move rfl (by rw [hm.outer 3 (by kernel_rfl)]; exact D3.out.grown0 hm.grow.none2)⟩) ?_
  refine Walk.val (G := Is (.string ⟨(s).toArray⟩)) (stays_is _ _) rfl rfl (fun a w hm hd => ⟨wanted_plain rfl, st_str rfl (hd.at_ 6 rfl rfl rfl rfl)⟩) ?_
  refine Walk.val (G := Is (.bool (!decide (sealB key nonce h X = s)))) (stays_is _ _) rfl rfl (fun a w hm hd => ⟨wanted_plain rfl, st_nes rfl (hd.at_ 5 rfl rfl rfl rfl) (hd.at_ 7 rfl rfl rfl rfl)⟩) ?_
  intro a9 V hm9 hall
  have f27 : Is (.string ⟨(sealB key nonce h X).toArray⟩) (a9.eval (.tmp 27)) V := hall 5 _ _ rfl rfl
  have f29 : Is (.string ⟨(s).toArray⟩) (a9.eval (.tmp 29)) V := hall 7 _ _ rfl rfl
  have f30 : Is (.bool (!decide (sealB key nonce h X = s))) (a9.eval (.tmp 30)) V := hall 8 _ _ rfl rfl
  have hfr := hm9.frame
  simp only [List.take_succ_cons, List.take_zero, List.filterMap_cons, List.filterMap_nil, List.foldl_cons, List.foldl_nil] at hfr
  have hgV : w1.grownBy V none := GrownX.none2 hm9.grow
  clear hall hm9
  generalize a9.eval (.tmp 22) = e22 at hfr
  generalize a9.eval (.tmp 23) = e23 at hfr
  generalize a9.eval (.tmp 24) = e24 at hfr
  generalize a9.eval (.tmp 25) = e25 at hfr
  generalize a9.eval (.tmp 26) = e26 at hfr
  rw [show a9.eval (.tmp 27) = _ from f27] at hfr
  clear f27
  generalize a9.eval (.tmp 28) = e28 at hfr
  rw [show a9.eval (.tmp 29) = _ from f29] at hfr
  clear f29
  rw [show a9.eval (.tmp 30) = _ from f30] at hfr
  clear f30
  have HRV := Lib.hid (HR.out.grown0 hgV)
  have HGV := Lib.hid (HG1.out.trans hgV)
  clear HR HG1 D0 D1 D2 D3 hgV
  obtain ⟨Ax, cx, rfl⟩ := HRV.out.form
  by_cases heq : sealB key nonce h X = s
  · have hde : decide (sealB key nonce h X = s) = true := by rw [decide_eq_true_iff]; exact heq
    have HEQ := Lib.hid (HRI.out.2 heq)
    rw [hde] at hfr
    clear heq hde
    unfold wpList
    rw [hfr]
    clear hfr
    go_simp
    go_wp2
    refine bodyPost_ret (results_tmp2 rfl _ _ _) rfl ?_
    obtain ⟨h1, h2⟩ := HTA.out
    refine ⟨HGV.out, .inr (.inr ⟨h2, by rw [h1]; exact HEQ.out, _, rfl, ?_⟩)⟩
    rw [h1, HXX.out]
    exact HRV.out
  · have hde : decide (sealB key nonce h X = s) = false := by rw [decide_eq_false_iff_not]; exact heq
    have HEQ := Lib.hid (fun h => heq (HRI.out.1 h))
    rw [hde] at hfr
    clear heq hde
    unfold wpList
    rw [hfr]
    clear hfr
    go_simp
    go_wp2
    refine bodyPost_ret (results_tmp2 rfl _ _ _) rfl ?_
    obtain ⟨h1, h2⟩ := HTA.out
    exact ⟨HGV.out, .inr (.inl ⟨h2, by rw [h1]; exact HEQ.out, rfl⟩)⟩

theorem ropen_any (v0 v1 v2 v3 : Value) (key : List UInt8) (hk : key.length = 32) (nonce : List UInt8) (hn : nonce.length = 12) (h s : List UInt8) (hh : h.length ≤ 200) (hs : s.length ≤ 200) (w : World) (r0 : Rd w v0 (bytesV key)) (r1 : Rd w v1 (bytesV nonce)) (r2 : Rd w v2 (bytesV h)) (r3 : Rd w v3 (bytesV s)) :
    Calls Try.prog 12 #[v0, v1, v2, v3] w (ROpenOut key nonce h s w) := by
  obtain ⟨A, c, rfl⟩ := r3.form
  rw [bytesV_len] at r3 ⊢
  by_cases h16 : s.length < 16
  · exact ropen_short v0 v1 v2 A s.length c key nonce h s w rfl h16
  · obtain ⟨ad, rfl, _⟩ := r3.cells (by intro e; have := congrArg List.length e; rw [bytesV_len] at this; simp at this; simp [this] at h16)
    obtain ⟨m, hm⟩ : ∃ m, s.length = m + 16 := ⟨s.length - 16, by omega⟩
    rw [hm] at r3 ⊢
    exact ropen_long v0 v1 v2 ad m c key hk nonce hn h s hh (by omega) w r0 r1 r2 r3
end Go.Proofs.Ytjcbdplbekecjaa
