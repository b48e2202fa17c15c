/-
  Several texts in one file.
-/
import Derived.Test.YtjcbdplbekecjaaAe
import Derived.Test.YtjcbdplbekecjaaAppBytes
import Derived.Test.YtjcbdplbekecjaaCommon
import Derived.Test.YtjcbdplbekecjaaOwnKeep
import Derived.Test.YtjcbdplbekecjaaStrAt
import Derived.Test.YtjcbdplbekecjaaPolTag
import Derived.Test.YtjcbdplbekecjaaStepOps
import Derived.Test.YtjcbdplbekecjaaDerSame
/-
  aead.tagged's put over this program: bytes, and noughts up to a multiple of sixteen, onto what lies in its box.
-/
namespace Go.Proofs.Ytjcbdplbekecjaa
open Go.RowKit

/-- The box ga holds a row of the call's own that reads as l. -/
def Put (w0 : World) (ga : Nat) (l : List UInt8) (W : World) : Prop :=
  ∃ A c, Row W ga 24 [.slice A l.length c] ∧ W.ownsRow (ga + 1) 5 1 (.slice A l.length c) l.length (bytesV l) ∧ w0.grownBy W none
def PutAt (w0 : World) (ga : Nat) (l : List UInt8) (e : Ending) (W : World) : Prop := e = .returned (.tuple #[]) ∧ Put w0 ga l W

/-- How many noughts are missing. -/
def missing (ga : Nat) (W : World) : Nat := match W.cell? ⟨ga, 0, none⟩ with | some (.slice _ n _) => (16 - n % 16) % 16 | _ => 0

theorem own_lower {w : World} {base base' n : Nat} {e : TypeId} {v : Value} {xs : List Value} (h : w.ownsRow base e 1 v n xs) (hb : base' ≤ base) : w.ownsRow base' e 1 v n xs := by
  obtain ⟨h1, h2⟩ := h
  refine ⟨h1, ?_⟩
  rcases h2 with h2 | ⟨g, cap, cur, e1, e2, e3⟩
  · exact .inl h2
  · exact .inr ⟨g, cap, cur, e1, by omega, e3⟩
theorem Put.step {w0 W W' : World} {ga : Nat} (hga : w0.heap.size ≤ ga) {v : Value} {A : Option Addr} {c n : Nat} {l m : List UInt8} (hr : Row W ga 24 [.slice A n c]) (ho : W.ownsRow (ga + 1) 5 1 (.slice A n c) l.length (bytesV l)) (hg : w0.grownBy W none)
    (ho' : W'.ownsRow (ga + 1) 5 1 v (l.length + m.length) (bytesV l ++ bytesV m)) (hg' : W.grownBy W' (Value.slice A n c).ownBlock) : Put w0 ga (l ++ m) (W'.setCell ⟨ga, 0, none⟩ v) := by
  have hr' : Row W' ga 24 [.slice A n c] := hr.grown hg' (by intro e; have := (ho.lt ga e.symm).1; omega)
  obtain ⟨A', c', hv⟩ : ∃ A' c', v = .slice A' (l ++ m).length c' := by
    have := (Rd.of_own ho').form
    rw [← bytesV_app, bytesV_len] at this
    exact this
  rw [← bytesV_app, ← List.length_append] at ho'
  subst hv
  refine ⟨A', c', hr'.set 0 _, ?_, ?_⟩
  · exact ho'.kept (grown_set W' ga 0 _) (.inr fun e => by have := (ho'.lt ga e).1; omega)
  · refine grown_own (grown_new hg hg' fun b hb => by have := (ho.lt b hb).1; omega) (grown_set W' ga 0 _) hga

set_option maxHeartbeats 1000000 in
theorem put_any (w0 : World) (ga : Nat) (hga : w0.heap.size ≤ ga) (l m : List UInt8) (u : Value) (w : World) (hp : Put w0 ga l w) (hr : Rd w u (bytesV m)) (hb : l.length + m.length ≤ 500000000000) :
    Calls Try.prog 47 #[u, .pointer (some ⟨ga, 0, none⟩)] w (PutAt w0 ga (upB (l ++ m))) := by
  obtain ⟨A, c, hrow, hown, hgr⟩ := hp
  have hc := hrow.cell (j := 0) rfl
  have hf := hrow.frozen 0
  have HROW := Lib.hid hrow
  have HR := Lib.hid hr
  have HGA := Lib.hid hga
  have HGR := Lib.hid hgr
  have HB := Lib.hid hb
  clear hr hga hgr hrow hb
  go_enter Try.func47, Try.ntmps47
  go_wp2_with (at_builtin; refine wpList_append_bytes _ rfl _ _ rfl (ga + 1) _ l.length _ rfl hown _ m rfl HR.out (by have := HB.out; omega) HROW.out.lt ?_)
  intro v' w1 ho1 hg1 hat
  obtain ⟨A1, c1, rfl⟩ := own_form ho1
  have hp1 := Put.step HGA.out HROW.out hown HGR.out ho1 hg1
  have hrow1 : Row w1 ga 24 [.slice A l.length c] := HROW.out.grown hg1 (by intro e; have := (hown.lt ga e.symm).1; omega)
  have hc1 := hrow1.cell (j := 0) rfl
  have hf1 := hrow1.frozen 0
  have HP1 := Lib.hid hp1
  clear hp1 hrow1 ho1 hg1 hat hown hc hf
  go_wp2
  go_loopw [] (fun W => ∃ b : List UInt8, Put w0 ga b W ∧ upB b = upB (l ++ m) ∧ b.length ≤ 500000000000 + 16) (missing ga)
  case atStart => exact ⟨l ++ m, HP1.out, rfl, by have := HB.out; rw [List.length_append]; omega⟩
  case round =>
    obtain ⟨b, ⟨A2, c2, hrow2, hown2, hgr2⟩, hup, hbl⟩ := hrel
    have hc2 := hrow2.cell (j := 0) rfl
    have hf2 := hrow2.frozen 0
    have HROW2 := Lib.hid hrow2
    have HUP := Lib.hid hup
    have HGR2 := Lib.hid hgr2
    clear hrow2 hup hgr2
    by_cases h16 : b.length % 16 = 0
    · have hb0 : ((b.length : Int) % 16 != 0) = false := by simp; omega
      have H16 := Lib.hid h16
      clear h16
      go_wp2
      refine bodyPost_end (results_none rfl _ _ _) rfl ?_
      rw [← HUP.out, upB_done b H16.out]
      exact ⟨rfl, A2, c2, HROW2.out, hown2, HGR2.out⟩
    · have hb0 : ((b.length : Int) % 16 != 0) = true := by simp; omega
      have H16 := Lib.hid h16
      have hga2 : ga < wr.heap.size := HROW2.out.lt
      have hga : wr.grownBy (wr.alloc (.cells #[.int .u8 0] 5)) none := grown_alloc (grown_refl _ _) _
      have hrd : Rd (wr.alloc (.cells #[.int .u8 0] 5)) (.slice (some ⟨wr.heap.size, 0, none⟩) 1 1) (bytesV [0]) := Rd.one wr (byteV 0) 5
      have hown3 : (wr.alloc (.cells #[.int .u8 0] 5)).ownsRow (ga + 1) 5 1 (.slice A2 b.length c2) b.length (bytesV b) := own_keepN hown2 hga
      have hrow3 := HROW2.out.grown0 hga
      have HALL := Lib.hid (And.intro hrd (And.intro hown3 (And.intro hrow3 (And.intro (HGR2.out.trans hga) (show ga + 1 ≤ (wr.alloc (.cells #[.int .u8 0] 5)).heap.size by simp; omega)))))
      clear h16 hga hrd hown3 hrow3 hown2
      go_wp2_with (at_builtin; refine wpList_append_bytes _ rfl _ _ rfl (ga + 1) _ b.length _ rfl HALL.out.2.1 _ [0] rfl HALL.out.1 (by simp; omega) HALL.out.2.2.2.2 ?_)
      intro v' w3 ho3 hg3 hat
      obtain ⟨A3, c3, rfl⟩ := own_form ho3
      have hp3 := Put.step HGA.out HALL.out.2.2.1 HALL.out.2.1 HALL.out.2.2.2.1 ho3 hg3
      have hrow4 : Row w3 ga 24 [.slice A2 b.length c2] := HALL.out.2.2.1.grown hg3 (by intro e; have := (HALL.out.2.1.lt ga e.symm).1; omega)
      have hc4 := hrow4.cell (j := 0) rfl
      have hf4 := hrow4.frozen 0
      have hm4 := (hrow4.set 0 (.slice A3 (b.length + 1) c3)).cell (j := 0) rfl
      have HM4 := Lib.hid hm4
      have HC2 := Lib.hid hc2
      have HP3 := Lib.hid hp3
      clear hp3 hrow4 ho3 hg3 hat hm4
      go_wp2
      go_roundw
      case rel => exact ⟨b ++ [0], HP3.out, by rw [upB_more b H16.out]; exact HUP.out, by have := H16.out; rw [List.length_append, List.length_singleton]; omega⟩
      case measure =>
        have h := H16.out
        unfold missing
        rw [HC2.out]
        erw [HM4.out]
        simp only
        omega
end Go.Proofs.Ytjcbdplbekecjaa

/-
  aead.tagged over this program.
-/
namespace Go.Proofs.Ytjcbdplbekecjaa
open Go.RowKit

theorem Put.rd {w0 W : World} {ga : Nat} {l : List UInt8} (h : Put w0 ga l W) : ∃ A c, W.cell? ⟨ga, 0, none⟩ = some (.slice A l.length c) ∧ Rd W (.slice A l.length c) (bytesV l) ∧ (∀ b, (Value.slice A l.length c).ownBlock = some b → ga + 1 ≤ b ∧ b < W.heap.size) := by
  obtain ⟨A, c, h1, h2, h3⟩ := h
  exact ⟨A, c, h1.cell (j := 0) rfl, Rd.of_own h2, h2.lt⟩
theorem Put.kept {w0 W W' : World} {ga : Nat} {l : List UInt8} (h : Put w0 ga l W) (hg : W.grownBy W' none) : Put w0 ga l W' := by
  obtain ⟨A, c, h1, h2, h3⟩ := h
  exact ⟨A, c, h1.grown0 hg, own_keepN h2 hg, h3.trans hg⟩

set_option maxHeartbeats 1000000 in
theorem tagged_any (v1 v2 : Value) (h x : List UInt8) (w : World) (hr1 : Rd w v1 (bytesV h)) (hr2 : Rd w v2 (bytesV x)) (hh : h.length ≤ 100000000000) (hx : x.length ≤ 100000000000) :
    Calls Try.prog 26 #[v1, v2] w (Out w (tagd h x)) := by
  have hmf : ∀ (fn : Fn) (first cap : Array Value) (w : World), (Instr.makeFunc fn first cap).run Try.prog w = .ok (.func fn first cap) w := fun _ _ _ _ => rfl
  obtain ⟨A1, c1, rfl⟩ := hr1.form
  obtain ⟨A2, c2, rfl⟩ := hr2.form
  rw [bytesV_len] at hr1 hr2 ⊢
  rw [bytesV_len]
  have HR1 := Lib.hid hr1
  have HR2 := Lib.hid hr2
  have H1 := Lib.hid hh
  have H2 := Lib.hid hx
  have hp0 : Put w w.heap.size [] (w.alloc (.cells #[.slice none 0 0] 24)) := ⟨none, 0, Row.new w _ [.slice none 0 0], World.ownsRow_nil _ _ _ _, grown_alloc (grown_refl _ _) _⟩
  have HC0 := Lib.hid (put_any w w.heap.size (Nat.le_refl _) [] h (.slice A1 h.length c1) _ hp0 (hr1.grown0 (grown_alloc (grown_refl _ _) _)) (by simp; omega))
  have u1 := upB_le h
  have u2 := upB_le (upB h ++ x)
  rw [List.length_append] at u2
  have HU := Lib.hid (And.intro u1 u2)
  have HE := Lib.hid (tagd_put h x)
  have hm1 : ((h.length : Nat) : Int) % 18446744073709551616 = (h.length : Int) := by omega
  have hm2 : ((x.length : Nat) : Int) % 18446744073709551616 = (x.length : Int) := by omega
  clear hr1 hr2 hh hx hp0 u1 u2
  go_enter Try.func26, Try.ntmps26
  go_wp2_with fail
  refine HC0.out.mono ?_
  rintro e wa ⟨rfl, hpa⟩
  rw [List.nil_append] at hpa
  have HPA := Lib.hid hpa
  have HGA := Lib.hid (show w.grownBy wa none by obtain ⟨_, _, _, _, hg⟩ := hpa; exact hg)
  clear hpa HC0
  go_wp2_with fail
  refine (put_any w w.heap.size (Nat.le_refl _) (upB h) x (.slice A2 x.length c2) wa HPA.out (HR2.out.grown0 HGA.out) (by have := H1.out; have := H2.out; have := HU.out.1; omega)).mono ?_
  rintro e wb ⟨rfl, hpb⟩
  have HPB := Lib.hid hpb
  clear hpb
  go_wp2_with fail
  refine (fixed_any (.slice none 0 0) [] h.length 8 wb (Rd.nil _) (by simp) (by have := H1.out; omega)).mono ?_
  rintro e wc ⟨vc, rfl, hrc, hgc, _⟩
  rw [show wid 8 = 8 from rfl, List.nil_append] at hrc
  have HRC := Lib.hid hrc
  have HPC := Lib.hid (HPB.out.kept hgc)
  clear hrc hgc HPB
  go_wp2_with fail
  refine (fixed_any vc (low 8 h.length) x.length 8 wc HRC.out (by rw [low_len]; omega) (by have := H2.out; omega)).mono ?_
  rintro e wd ⟨vd, rfl, hrd, hgd, _⟩
  rw [show wid 8 = 8 from rfl] at hrd
  have HRD := Lib.hid hrd
  have HPD := Lib.hid (HPC.out.kept hgd)
  clear hrd hgd HPC
  go_wp2_with fail
  refine (put_any w w.heap.size (Nat.le_refl _) (upB (upB h ++ x)) (low 8 h.length ++ low 8 x.length) vd wd HPD.out HRD.out (by have := H1.out; have := H2.out; have := HU.out.1; have := HU.out.2; simp [low_len]; omega)).mono ?_
  rintro e we ⟨rfl, hpe⟩
  rw [HE.out] at hpe
  obtain ⟨A, c, hcell, hrd, hlt⟩ := hpe.rd
  have HF := Lib.hid (And.intro hpe (And.intro hrd hlt))
  clear hpe hrd hlt
  go_wp2
  go_ret
  obtain ⟨⟨_, _, _, _, hg⟩, hrd, hlt⟩ := HF.out
  exact ⟨_, rfl, hrd, hg, fun b hb => ⟨by have := (hlt b hb).1; omega, (hlt b hb).2⟩⟩
end Go.Proofs.Ytjcbdplbekecjaa

/-
  aead.tagOf over this program.
-/
namespace Go.Proofs.Ytjcbdplbekecjaa
open Go.RowKit

theorem otk_row (key nonce : List UInt8) : splice (noughts8 32) 0 ((bytesV (blok key 0#32 nonce)).take 32) = bytesV (otk key nonce) := by
  have hl : ((bytesV (blok key 0#32 nonce)).take 32).length = 32 := by rw [List.length_take, bytesV_len, blok_len]; rfl
  rw [splice_zero, hl]
  simp [bytesV, noughts8, List.map_take, otk]

set_option maxHeartbeats 4000000 in
set_option maxRecDepth 100000 in
theorem tagOf_any (key : List UInt8) (hk : key.length = 32) (nonce : List UInt8) (hn : nonce.length = 12) (v1 v2 : Value) (h x : List UInt8) (w : World) (hr1 : Rd w v1 (bytesV h)) (hr2 : Rd w v2 (bytesV x)) (hh : h.length ≤ 40000000000) (hx : x.length ≤ 40000000000) :
    Calls Try.prog 14 #[.agg (bytesV key).toArray, .agg (bytesV nonce).toArray, v1, v2] w (Val (.agg (bytesV (tagA key nonce h x)).toArray) w) := by
  generalize hG : w.heap.size = G
  have HG := Lib.hid hG
  have HKL := Lib.hid (show (bytesV key).length = 32 by rw [bytesV_len, hk])
  have HNL := Lib.hid (show (bytesV nonce).length = 12 by rw [bytesV_len, hn])
  have HBK := Lib.hid (fun w => block_any key hk 0#32 nonce hn w)
  obtain ⟨W0, hW0⟩ : ∃ W, ((w.alloc (.cells (bytesV key).toArray 22)).alloc (.cells (bytesV nonce).toArray 23)).alloc (.cells (noughts8 16).toArray 37) = W := ⟨_, rfl⟩
  have R0 := Lib.hid (show Row W0 G 22 (bytesV key) by rw [← hW0]; exact ((Row.newAt w _ (bytesV key) hG).alloc _).alloc _)
  have R1 := Lib.hid (show Row W0 (G + 1) 23 (bytesV nonce) by rw [← hW0]; exact (Row.newAt _ _ (bytesV nonce) (by simp [hG])).alloc _)
  have R2 := Lib.hid (show Row W0 (G + 1 + 1) 37 (noughts8 16) by rw [← hW0]; exact Row.newAt _ _ (noughts8 16) (by simp [hG]))
  have HGR := Lib.hid (show w.grownBy W0 none by rw [← hW0]; exact grown_alloc (grown_alloc (grown_alloc (grown_refl _ _) _) _) _)
  simp only [noughts8, List.replicate] at hW0
  have HR1 := Lib.hid hr1
  have HR2 := Lib.hid hr2
  have HH := Lib.hid (And.intro hh hx)
  have HOK := Lib.hid (otk_row key nonce)
  have HOL := Lib.hid (otk_len key nonce)
  have HTA := Lib.hid (show tagA key nonce h x = tagB (otk key nonce) (tagd h x) from rfl)
  have HBL := Lib.hid (show (bytesV (blok key 0#32 nonce)).length = 64 by rw [bytesV_len, blok_len])
  have HBO := Lib.hid (fun x hx => bytesV_one (blok key 0#32 nonce) x hx)
  clear hk hn hr1 hr2 hh hx
  go_enter Try.func14, Try.ntmps14
  go_wp2_with (first
    | refine wpList_load_row _ rfl _ 22 rfl G 22 (bytesV key) _ rfl R0.out Try.underlying22 rfl (by rw [HKL.out]; kernel_rfl) ?_
    | refine wpList_load_row _ rfl _ 23 rfl (G + 1) 23 (bytesV nonce) _ rfl R1.out Try.underlying23 rfl (by rw [HNL.out]; kernel_rfl) ?_)
  clear hG hW0
  refine (HBK.out _).mono ?_
  rintro e w1 ⟨rfl, hg1⟩
  have hGlt := R2.out.lt
  have hg1s := hg1.size
  have R2' := Lib.hid (R2.out.grown0 hg1)
  have HG1 := Lib.hid (HGR.out.trans hg1)
  clear R0 R1 R2 HGR HBK hg1 hGlt hg1s HKL HNL
  generalize hBV : bytesV (blok key 0#32 nonce) = BV at *
  clear hBV
  go_wp2_with (refine wpList_store_row _ rfl rfl _ _ 49 rfl w1.heap.size 49 (noughts8 64) BV rfl rfl (Row.new w1 49 (noughts8 64)) (by rw [HBL.out]; rfl) HBO.out (by rw [HBL.out]; kernel_rfl) ?_; intro w2 hr2 hg2)
  obtain ⟨W3, hW3⟩ : ∃ W, w2.alloc (.cells (noughts8 32).toArray 22) = W := ⟨_, rfl⟩
  have HSZ := Lib.hid (show G + 1 + 1 < w1.heap.size ∧ w1.heap.size < w2.heap.size ∧ w.heap.size ≤ w1.heap.size from ⟨R2'.out.lt, hr2.lt, HG1.out.size⟩)
  have HG2 := Lib.hid (show w.grownBy W3 none by
    rw [← hW3]
    exact grown_alloc (grown_own (grown_alloc HG1.out _) hg2 HSZ.out.2.2) _)
  have Q2 := Lib.hid (show Row W3 (G + 1 + 1) 37 (noughts8 16) by
    rw [← hW3]
    exact ((R2'.out.alloc _).grown hg2 (by have := HSZ.out; simp; omega)).alloc _)
  have Q3 := Lib.hid (show Row W3 w1.heap.size 49 BV by
    rw [← hW3]
    exact hr2.alloc _)
  have Q4 := Lib.hid (show Row W3 w2.heap.size 22 (noughts8 32) by
    rw [← hW3]
    exact Row.new w2 _ _)
  obtain ⟨w4, hrun, hr4, hg4⟩ := run_copy_gen (P := Try.prog) W3.drew 24 3 5 Try.underlying24 (by kernel_rfl) w2.heap.size 0 32 32 _ BV (Q3.out.drew.rds 64 64 HBL.out (by decide) (by decide)) HBO.out (noughts8 32) 22 Q4.out.drew (by decide)
  rw [HOK.out] at hr4
  rw [HBL.out] at hrun
  have hrun' : (Builtin.copy_ #[24, 24] 3 #[.slice (some ⟨w2.heap.size, 0, none⟩) 32 32, .slice (some ⟨w1.heap.size, 0, none⟩) 64 64]).run Try.prog W3.drew = .ok (.int .i64 32) w4 := hrun
  simp only [noughts8, List.replicate] at hW3
  rw [hW3]
  have S2 := Lib.hid (Q2.out.drew.grown hg4 (by have := HSZ.out; simp; omega))
  have S4 := Lib.hid hr4
  have HG4 := Lib.hid (grown_own (grown_drew HG2.out) hg4 (by have := HSZ.out; omega))
  clear hrun hr4 hg4 Q2 Q3 Q4 HG2 hr2 hg2 R2' HG1 hW3
  go_region
  clear hrun'
  have HOV := Lib.hid (show (bytesV (otk key nonce)).length = 32 by rw [bytesV_len, HOL.out])
  have HTD := Lib.hid (show (tagd h x).length ≤ 100000000000 by have := tagd_len h x; have := HH.out; omega)
  have H1 := Lib.hid (fun (W : World) (hW : w.grownBy W none) => Out.made (tagged_any v1 v2 h x W (HR1.out.grown0 hW) (HR2.out.grown0 hW) (by have := HH.out; omega) (by have := HH.out; omega)))
  have H2 := Lib.hid (fun (v : Value) (W : World) (hv : IsB (tagd h x) v W) => Val.made (tag_any (otk key nonce) HOL.out v (tagd h x) W hv HTD.out))
  have HL := Lib.hid (show (bytesV (tagA key nonce h x)).length = 16 by rw [bytesV_len, tagA_len])
  have HO := Lib.hid (fun y hy => bytesV_one (tagA key nonce h x) y hy)
  rw [← HTA.out] at H2
  clear HTA
  generalize tagA key nonce h x = ta at *
  generalize tagd h x = td at *
  generalize otk key nonce = ok at *
  generalize bytesV ta = tb at *
  clear HTD HOK
  go_wp2
  refine wp_region_walk3 5 [] dis_nil (by kernel_rfl) (by kernel_rfl) (by kernel_rfl) ?_
  simp only [List.take_succ_cons, List.take_zero, List.drop_succ_cons, List.drop_zero]
  refine Walk.val (G := Is (.agg (bytesV ok).toArray)) (stays_is _ _) rfl rfl (fun a w hm hd => ⟨wanted_plain rfl, _, ex_load_row rfl w2.heap.size 22 _ _ (by rw [hm.outer 10 (by kernel_rfl)]; rfl) (S4.out.grown0 hm.grow.none2) Try.underlying22 rfl (by rw [HOV.out]; kernel_rfl), rfl⟩) ?_
  refine Walk.val (G := Is v1) (stays_is _ _) rfl rfl (fun a w hm hd => ⟨wanted_plain rfl, _, ex_move rfl, by rw [hm.outer 2 (by kernel_rfl)]; rfl⟩) ?_
  refine Walk.val (G := Is v2) (stays_is _ _) rfl rfl (fun a w hm hd => ⟨wanted_plain rfl, _, ex_move rfl, by rw [hm.outer 3 (by kernel_rfl)]; rfl⟩) ?_
  refine Walk.call (G := IsB td) (stays_bytes _ _) rfl 26 rfl (fun a w hm ha hd => ⟨wanted_plain rfl, _, ex_call2 Try.func26 (by kernel_rfl) (by kernel_rfl) rfl, by rw [show a.eval (.tmp 18) = _ from hd.at_ 1 rfl rfl rfl rfl, show a.eval (.tmp 19) = _ from hd.at_ 2 rfl rfl rfl rfl]; exact H1.out w (HG4.out.trans hm.grow.none2)⟩) ?_
  refine Walk.call (G := Is (.agg tb.toArray)) (stays_is _ _) rfl 25 rfl (fun a w hm ha hd => ⟨wanted_plain rfl, _, ex_call2 Try.func25 (by kernel_rfl) (by kernel_rfl) rfl, by rw [show a.eval (.tmp 17) = _ from hd.at_ 0 rfl rfl rfl rfl]; exact H2.out _ w (hd.at_ 3 rfl rfl rfl rfl)⟩) ?_
  intro a9 V hm9 hall
  have f21 : a9.eval (.tmp 21) = .agg tb.toArray := hall 4 _ _ rfl rfl
  have f8 : a9.eval (.tmp 8) = .pointer (some ⟨G + 1 + 1, 0, none⟩) := by rw [hm9.outer 8 (by kernel_rfl)]; rfl
  have hg9 : w4.grownBy V none := GrownX.none2 hm9.grow
  have hdf : a9.defers = [] := hm9.defers
  clear hall hm9
  refine wpList_store_row _ rfl rfl _ _ 37 rfl (G + 1 + 1) 37 (noughts8 16) tb f8 f21 (S2.out.grown0 hg9) (by rw [HL.out]; rfl) HO.out (by rw [HL.out]; kernel_rfl) ?_
  intro w5 hr5 hg5
  obtain ⟨tm, df⟩ := a9
  simp only at hdf
  subst hdf
  go_wp2
  refine bodyPost_ret (v := .agg tb.toArray) ?_ rfl ⟨rfl, grown_own (HG4.out.trans hg9) hg5 (by have := HG.out; omega)⟩
  exact results_row Try.results14 (G + 1 + 1) 37 tb _ f8 hr5 Try.underlying37 rfl (by rw [HL.out]; kernel_rfl)
end Go.Proofs.Ytjcbdplbekecjaa

/-
  aead.Seal over this program.
-/
namespace Go.Proofs.Ytjcbdplbekecjaa
open Go.RowKit

/-- Xor from block 1 on. -/
theorem xor_one (key : List UInt8) (hk : key.length = 32) (nonce : List UInt8) (hn : nonce.length = 12) (v : Value) (b : List UInt8) (w : World) (hr : Rd w v (bytesV b)) (hb : b.length ≤ 100000000000) :
    Calls Try.prog 13 #[.agg (bytesV key).toArray, .int .u32 1, .agg (bytesV nonce).toArray, v] w (fun e w' => ∃ v, e = .returned v ∧ w.grownBy w' none ∧ IsX (xs key 1#32 nonce b) v w') :=
  xor_at key hk 1#32 nonce hn v b w hr hb

set_option maxHeartbeats 4000000 in
set_option maxRecDepth 100000 in
theorem seal_own (key : List UInt8) (hk : key.length = 32) (nonce : List UInt8) (hn : nonce.length = 12) (v1 v2 : Value) (h t : List UInt8) (w : World) (hr1 : Rd w v1 (bytesV h)) (hr2 : Rd w v2 (bytesV t)) (hh : h.length ≤ 40000000000) (ht : t.length ≤ 40000000000) :
    Calls Try.prog 9 #[.agg (bytesV key).toArray, .agg (bytesV nonce).toArray, v1, v2] w (OutO w (sealB key nonce h t)) := by
  generalize hG : w.heap.size = G
  have HG := Lib.hid hG
  have HK := Lib.hid hk
  have HN := Lib.hid hn
  have HKL := Lib.hid (show (bytesV key).length = 32 by rw [bytesV_len, hk])
  have HNL := Lib.hid (show (bytesV nonce).length = 12 by rw [bytesV_len, hn])
  obtain ⟨W0, hW0⟩ : ∃ W, (w.alloc (.cells (bytesV key).toArray 22)).alloc (.cells (bytesV nonce).toArray 23) = W := ⟨_, rfl⟩
  have R0 := Lib.hid (show Row W0 G 22 (bytesV key) by rw [← hW0]; exact (Row.newAt w _ (bytesV key) hG).alloc _)
  have R1 := Lib.hid (show Row W0 (G + 1) 23 (bytesV nonce) by rw [← hW0]; exact Row.newAt _ _ (bytesV nonce) (by simp [hG]))
  have HGR := Lib.hid (show w.grownBy W0 none by rw [← hW0]; exact grown_alloc (grown_alloc (grown_refl _ _) _) _)
  have HR1 := Lib.hid hr1
  have HX1 := Lib.hid (xor_one key hk nonce hn v2 t W0 (hr2.grown0 HGR.out) (by omega))
  have HXL := Lib.hid (show (xs key 1#32 nonce t).length ≤ 40000000000 by rw [xs_len]; exact ht)
  have HH := Lib.hid hh
  have HSB := Lib.hid (show sealB key nonce h t = [xs key 1#32 nonce t, tagA key nonce h (xs key 1#32 nonce t)].flatten by simp [sealB])
  generalize hX : xs key 1#32 nonce t = X at *
  clear hX hk hn hr1 hr2 hh ht
  go_enter Try.func9, Try.ntmps9
  go_wp2_with (first
    | refine wpList_load_row _ rfl _ 22 rfl G 22 (bytesV key) _ rfl R0.out Try.underlying22 rfl (by rw [HKL.out]; kernel_rfl) ?_
    | refine wpList_load_row _ rfl _ 23 rfl (G + 1) 23 (bytesV nonce) _ rfl R1.out Try.underlying23 rfl (by rw [HNL.out]; kernel_rfl) ?_)
  clear hG hW0
  refine HX1.out.mono ?_
  rintro e w1 ⟨vx, rfl, hg1, gx, rfl, hx1⟩
  have S0 := Lib.hid (R0.out.grown0 hg1)
  have S1 := Lib.hid (R1.out.grown0 hg1)
  have HG1 := Lib.hid (HGR.out.trans hg1)
  have HVX := Lib.hid (IsX.rd (l := X) ⟨gx, rfl, hx1⟩ (by have := HXL.out; omega))
  have HTG := Lib.hid (tagOf_any key HK.out nonce HN.out v1 _ h X w1 (HR1.out.grown0 HG1.out) HVX.out HH.out HXL.out)
  clear R0 R1 HGR HX1 hg1
  go_wp2_with (first
    | refine wpList_load_row _ rfl _ 22 rfl G 22 (bytesV key) _ rfl S0.out Try.underlying22 rfl (by rw [HKL.out]; kernel_rfl) ?_
    | refine wpList_load_row _ rfl _ 23 rfl (G + 1) 23 (bytesV nonce) _ rfl S1.out Try.underlying23 rfl (by rw [HNL.out]; kernel_rfl) ?_)
  refine HTG.out.mono ?_
  rintro e w2 ⟨rfl, hg2⟩
  have HL := Lib.hid (show (bytesV (tagA key nonce h X)).length = 16 by rw [bytesV_len, tagA_len])
  have HO := Lib.hid (fun y hy => bytesV_one (tagA key nonce h X) y hy)
  have HTL := Lib.hid (tagA_len key nonce h X)
  have HVX2 := Lib.hid (hx1.grown0 hg2)
  have HG2 := Lib.hid (HG1.out.trans hg2)
  generalize tagA key nonce h X = T at *
  clear HVX HTG hg2 S0 S1 HG1 hx1
  go_wp2_with (refine wpList_store_row _ rfl rfl _ _ 37 rfl w2.heap.size 37 (noughts8 16) (bytesV T) rfl rfl (Row.new w2 37 (noughts8 16)) (by rw [HL.out]; rfl) HO.out (by rw [HL.out]; kernel_rfl) ?_; intro w3 hr3 hg3)
  have HWW := Lib.hid HG2.out.size
  have HG3 := Lib.hid (grown_own (grown_alloc HG2.out _) hg3 HWW.out)
  have hgx := HVX2.out.lt
  have V3 := (HVX2.out.alloc _).grown hg3 (by simp; omega)
  generalize hO : Obj.cells #[Value.slice (some ⟨gx, 0, none⟩) X.length X.length, .slice (some ⟨w2.heap.size, 0, none⟩) 16 16] 24 = OB
  have hrow : Row (w3.alloc OB) w3.heap.size 24 [.slice (some ⟨gx, 0, none⟩) X.length X.length, .slice (some ⟨w2.heap.size, 0, none⟩) 16 16] := by rw [← hO]; exact Row.new w3 _ _
  have hcat := concat_own w3.heap.size _ [X, T] (w3.alloc OB) hrow rfl (rd_two (IsX.rd (l := X) ⟨gx, rfl, V3.alloc _⟩ (by have := HXL.out; omega)) ((hr3.alloc OB).rds 16 16 HL.out (Nat.le_refl _) (by decide))) (by have := HXL.out; have := HTL.out; simp; omega) (by simp)
  rw [← HSB.out] at hcat
  refine hcat.mono ?_
  rintro e w4 ⟨v4, rfl, ho4, hg4⟩
  have HF := Lib.hid (And.intro ho4 (And.intro (grown_alloc HG3.out OB) hg4))
  clear hcat hrow hO V3 hgx hr3 hg3 ho4 hg4
  go_wp2
  go_ret
  obtain ⟨ho4, hg3, hg4⟩ := HF.out
  exact ⟨_, rfl, own_lower ho4 hg3.size, hg3.trans hg4⟩
end Go.Proofs.Ytjcbdplbekecjaa

/-
  aead.Open over this program.
-/
namespace Go.Proofs.Ytjcbdplbekecjaa
open Go.RowKit

section
variable {o : Oper} {a : Act} {w : World}
theorem ex_all16 {x : Operand} {g : Nat} (h : o.op = .slice 37 x none none none) (hx : a.eval x = .pointer (some ⟨g, 0, none⟩)) : (execOp a.eval o).run Try.prog w = .ok (.value (.slice (some ⟨g, 0, none⟩) 16 16)) w := by
  simp only [execOp, h, hx]
  simp [Instr.sliceAt, go_sem, Instr.sliceBounds, Addr.add]
theorem ex_from {x y : Operand} {ad : Addr} {n c k : Nat} (h : o.op = .slice 24 x (some y) none none) (hx : a.eval x = .slice (some ad) n c) (hy : a.eval y = .int .i64 (k : Int)) (hk : k ≤ n) (hc : k < c) :
    (execOp a.eval o).run Try.prog w = .ok (.value (.slice (some (ad.add k)) (n - k) (c - k))) w := by
  have h1 : (k : Int) ≤ (n : Int) := by omega
  have h3 : ¬ c = k := by omega
  simp only [execOp, h, hx, hy, Option.map_some, Option.map_none]
  simp [go_sem, h1, h3]
theorem ex_not {x : Operand} {b : Bool} (h : o.op = .unOp .not 4 x) (hx : Is (.bool b) (a.eval x) w) : (execOp a.eval o).run Try.prog w = .ok (.value (.bool (!b))) w := by
  have hx' : a.eval x = .bool b := hx
  simp only [execOp, h, hx']
  simp [go_sem]
end

/-- What Open answers: too few bytes; another tag; a text. -/
def OpenOut (key nonce h s : List UInt8) (w : World) (e : Ending) (w' : World) : Prop :=
  w.grownBy w' none ∧ ((s.length < 16 ∧ e = .returned (.tuple #[.slice none 0 0, .int .i64 2])) ∨
    (16 ≤ s.length ∧ tagA key nonce h (s.take (s.length - 16)) ≠ s.drop (s.length - 16) ∧ e = .returned (.tuple #[.slice none 0 0, .int .i64 8])) ∨
    (16 ≤ s.length ∧ tagA key nonce h (s.take (s.length - 16)) = s.drop (s.length - 16) ∧ ∃ v, e = .returned (.tuple #[v, .int .i64 0]) ∧ IsX (xs key 1#32 nonce (s.take (s.length - 16))) v w'))

theorem open_short (key : List UInt8) (nonce : List UInt8) (v1 : Value) (A : Option Addr) (n c : Nat) (h s : List UInt8) (w : World) (hr2 : Rd w (.slice A n c) (bytesV s)) (hn16 : n < 16) :
    Calls Try.prog 11 #[.agg (bytesV key).toArray, .agg (bytesV nonce).toArray, v1, .slice A n c] w (OpenOut key nonce h s w) := by
  have hl := hr2.len.1
  rw [bytesV_len] at hl
  have HL := Lib.hid hl
  have HN := Lib.hid hn16
  have hdec : decide (((n : Int) - 16) < 0) = true := by simp; omega
  have hw : IntKind.i64.wrap ((n : Int) - 16) = (n : Int) - 16 := by rw [IntKind.wrap_i64]; omega
  have HG := Lib.hid (show w.grownBy ((w.alloc (.cells (bytesV key).toArray 22)).alloc (.cells (bytesV nonce).toArray 23)) none from grown_alloc (grown_alloc (grown_refl _ _) _) _)
  clear hr2 hl
  go_enter Try.func11, Try.ntmps11
  go_wp2
  refine bodyPost_ret (results_tmp2 rfl _ _ _) rfl ?_
  exact ⟨HG.out, .inl ⟨by rw [HL.out]; exact HN.out, rfl⟩⟩

set_option maxHeartbeats 4000000 in
set_option maxRecDepth 100000 in
theorem open_long (key : List UInt8) (hk : key.length = 32) (nonce : List UInt8) (hn : nonce.length = 12) (v1 : Value) (ad : Addr) (m c : Nat) (h s : List UInt8) (w : World) (hr1 : Rd w v1 (bytesV h)) (hr2 : Rd w (.slice (some ad) (m + 16) c) (bytesV s)) (hh : h.length ≤ 40000000000) (hm : m ≤ 40000000000) :
    Calls Try.prog 11 #[.agg (bytesV key).toArray, .agg (bytesV nonce).toArray, v1, .slice (some ad) (m + 16) c] w (OpenOut key nonce h s w) := by
  generalize hG : w.heap.size = G
  have HG := Lib.hid hG
  have HK := Lib.hid hk
  have HN := Lib.hid hn
  have hsl := hr2.len.1
  rw [bytesV_len] at hsl
  have HSL := Lib.hid hsl
  have HKL := Lib.hid (show (bytesV key).length = 32 by rw [bytesV_len, hk])
  have HNL := Lib.hid (show (bytesV nonce).length = 12 by rw [bytesV_len, hn])
  obtain ⟨W0, hW0⟩ : ∃ W, (w.alloc (.cells (bytesV key).toArray 22)).alloc (.cells (bytesV nonce).toArray 23) = W := ⟨_, rfl⟩
  have R0 := Lib.hid (show Row W0 G 22 (bytesV key) by rw [← hW0]; exact (Row.newAt w _ (bytesV key) hG).alloc _)
  have R1 := Lib.hid (show Row W0 (G + 1) 23 (bytesV nonce) by rw [← hW0]; exact Row.newAt _ _ (bytesV nonce) (by simp [hG]))
  have HGR := Lib.hid (show w.grownBy W0 none by rw [← hW0]; exact grown_alloc (grown_alloc (grown_refl _ _) _) _)
  have hmc := hr2.len.2.1
  have hcm := hr2.len.2.2
  have HC := Lib.hid (And.intro hmc hcm)
  have HT := Lib.hid (show Rd w (.slice (some ad) m m) (bytesV (s.take m)) by
    have := hr2.take (n := m) (d := m) (by omega) (Nat.le_refl _) (by omega)
    rwa [show (bytesV s).take m = bytesV (s.take m) by simp [bytesV, List.map_take]] at this)
  have HD := Lib.hid (show Rd w (.slice (some (ad.add m)) 16 (c - m)) (bytesV (s.drop m)) by
    have := hr2.drop (n := m) (by omega)
    rw [show (bytesV s).drop m = bytesV (s.drop m) by simp [bytesV, List.map_drop], show m + 16 - m = 16 by omega] at this
    exact this)
  have HTL := Lib.hid (show (s.take m).length = m by rw [List.length_take, hsl]; omega)
  have HR1 := Lib.hid hr1
  have HH := Lib.hid hh
  have HM := Lib.hid hm
  have hw : wrap64 (m : Int) = (m : Int) := by unfold wrap64; omega
  have hmc2 : m ≤ c := by omega
  clear hk hn hr1 hr2 hh hsl hmc hcm hm
  go_enter Try.func11, Try.ntmps11
  go_wp2_with (first
    | refine wpList_load_row _ rfl _ 22 rfl G 22 (bytesV key) _ rfl R0.out Try.underlying22 rfl (by rw [HKL.out]; kernel_rfl) ?_
    | refine wpList_load_row _ rfl _ 23 rfl (G + 1) 23 (bytesV nonce) _ rfl R1.out Try.underlying23 rfl (by rw [HNL.out]; kernel_rfl) ?_)
  clear hG hW0
  refine (tagOf_any key HK.out nonce HN.out v1 _ h (s.take m) W0 (HR1.out.grown0 HGR.out) (HT.out.grown0 HGR.out) HH.out (by rw [HTL.out]; exact HM.out)).mono ?_
  rintro e w1 ⟨rfl, hg1⟩
  have S0 := Lib.hid (R0.out.grown0 hg1)
  have S1 := Lib.hid (R1.out.grown0 hg1)
  have HG1 := Lib.hid (HGR.out.trans hg1)
  have HL := Lib.hid (show (bytesV (tagA key nonce h (s.take m))).length = 16 by rw [bytesV_len, tagA_len])
  have HO := Lib.hid (fun y hy => bytesV_one (tagA key nonce h (s.take m)) y hy)
  have HTA := Lib.hid (show tagA key nonce h (s.take (s.length - 16)) = tagA key nonce h (s.take m) ∧ s.drop (s.length - 16) = s.drop m ∧ s.take (s.length - 16) = s.take m ∧ 16 ≤ s.length by
    rw [HSL.out, show m + 16 - 16 = m by omega]
    exact ⟨rfl, rfl, rfl, by omega⟩)
  generalize tagA key nonce h (s.take m) = T at *
  clear R0 R1 HGR hg1 HR1 HH
  go_wp2_with (refine wpList_store_row _ rfl rfl _ _ 37 rfl w1.heap.size 37 (noughts8 16) (bytesV T) rfl rfl (Row.new w1 37 (noughts8 16)) (by rw [HL.out]; rfl) HO.out (by rw [HL.out]; kernel_rfl) ?_; intro w3 hr3 hg3)
  have HWW := Lib.hid HG1.out.size
  have HG3 := Lib.hid (grown_own (grown_alloc HG1.out _) hg3 HWW.out)
  have hlt0 := S0.out.lt
  have hlt1 := S1.out.lt
  have V0 := Lib.hid ((S0.out.alloc _).grown hg3 (by simp; omega))
  have V1 := Lib.hid ((S1.out.alloc _).grown hg3 (by simp; omega))
  have V2 := Lib.hid hr3
  clear hlt0 hlt1 S0 S1 HG1 hg3 hr3 HWW
  refine wp_region_walk3 6 [] dis_nil (by kernel_rfl) (by kernel_rfl) (by kernel_rfl) ?_
  simp only [List.take_succ_cons, List.take_zero, List.drop_succ_cons, List.drop_zero]
  refine Walk.val (G := IsB T) (stays_bytes _ _) rfl rfl (fun a w hm hd => ⟨wanted_plain rfl, _, ex_all16 rfl (by rw [hm.outer 12 (by kernel_rfl)]; rfl), (V2.out.grown0 hm.grow.none2).rds 16 16 HL.out (by decide) (by decide)⟩) ?_
  refine Walk.val (G := Is (.slice (some ad) (m + 16) c)) (stays_is _ _) rfl rfl (fun a w hm hd => ⟨wanted_plain rfl, _, ex_move rfl, (by rw [hm.outer 3 (by kernel_rfl)]; rfl)⟩) ?_
  refine Walk.val (G := Is (.int .i64 (m : Int))) (stays_is _ _) rfl rfl (fun a w hm hd => ⟨wanted_plain rfl, _, ex_move rfl, (by rw [hm.outer 10 (by kernel_rfl)]; rfl)⟩) ?_
  refine Walk.val (G := IsB (s.drop m)) (stays_bytes _ _) rfl rfl (fun a w hm hd => ⟨wanted_plain rfl, _, ex_from rfl (hd.at_ 1 rfl rfl rfl rfl) (hd.at_ 2 rfl rfl rfl rfl) (Nat.le_add_right _ _) (by have := HC.out; omega), by
    rw [show m + 16 - m = 16 by omega]
    exact HD.out.grown0 (HG3.out.trans hm.grow.none2)⟩) ?_
  refine Walk.call (G := Is (.bool (decide (T = s.drop m)))) (stays_is _ _) rfl 21 rfl (fun a w hm ha hd => ⟨wanted_plain rfl, _, ex_call2 Try.func21 (by kernel_rfl) (by kernel_rfl) rfl, by
    have h0 : IsB T (a.eval (.tmp 27)) w := hd.at_ 0 rfl rfl rfl rfl
    have h1 : IsB (s.drop m) (a.eval (.tmp 30)) w := hd.at_ 3 rfl rfl rfl rfl
    obtain ⟨A0, c0, e0⟩ := h0.form
    obtain ⟨A1, c1, e1⟩ := h1.form
    rw [e0] at h0 ⊢
    rw [e1] at h1 ⊢
    exact Val.made (same_any _ _ _ T _ _ _ (s.drop m) w h0 h1 (by rw [HL.out]; decide) (by rw [bytesV_len, List.length_drop, HSL.out]; omega))⟩) ?_
  refine Walk.val (G := Is (.bool (!decide (T = s.drop m)))) (stays_is _ _) rfl rfl (fun a w hm hd => ⟨wanted_plain rfl, _, ex_not rfl (hd.at_ 4 rfl rfl rfl rfl), rfl⟩) ?_
  intro a9 V hm9 hall
  have f32 : a9.eval (.tmp 32) = .bool (!decide (T = s.drop m)) := hall 5 _ _ rfl rfl
  have hfr := hm9.frame
  simp only [List.take_succ_cons, List.take_zero, List.filterMap_cons, List.filterMap_nil, List.foldl_cons, List.foldl_nil] at hfr
  rw [f32] at hfr
  have hg9 : w3.grownBy V none := GrownX.none2 hm9.grow
  generalize a9.eval (.tmp 27) = e27 at hfr
  generalize a9.eval (.tmp 28) = e28 at hfr
  generalize a9.eval (.tmp 29) = e29 at hfr
  generalize a9.eval (.tmp 30) = e30 at hfr
  generalize a9.eval (.tmp 31) = e31 at hfr
  have U0 := Lib.hid (V0.out.grown0 hg9)
  have U1 := Lib.hid (V1.out.grown0 hg9)
  have HG9 := Lib.hid (HG3.out.trans hg9)
  clear V0 V1 V2 HG3 hg9 hall hm9 f32
  unfold wpList
  rw [hfr]
  clear hfr
  by_cases heq : T = s.drop m
  · have hde : decide (T = s.drop m) = true := by rw [decide_eq_true_iff]; exact heq
    have HEQ := Lib.hid heq
    rw [hde]
    clear heq hde
    go_simp
    go_wp2_with (first
      | refine wpList_load_row _ rfl _ 22 rfl G 22 (bytesV key) _ rfl U0.out Try.underlying22 rfl (by rw [HKL.out]; kernel_rfl) ?_
      | refine wpList_load_row _ rfl _ 23 rfl (G + 1) 23 (bytesV nonce) _ rfl U1.out Try.underlying23 rfl (by rw [HNL.out]; kernel_rfl) ?_)
    refine (xor_one key HK.out nonce HN.out _ (s.take m) V (HT.out.grown0 HG9.out) (by rw [HTL.out]; have := HM.out; omega)).mono ?_
    rintro e w8 ⟨v8, rfl, hg8, hx8⟩
    have HF := Lib.hid (And.intro hg8 hx8)
    clear hg8 hx8
    go_wp2
    refine bodyPost_ret (results_tmp2 rfl _ _ _) rfl ?_
    obtain ⟨h1, h2, h3, h4⟩ := HTA.out
    refine ⟨HG9.out.trans HF.out.1, .inr (.inr ⟨h4, by rw [h1, h2]; exact HEQ.out, _, rfl, ?_⟩)⟩
    rw [h3]
    exact HF.out.2
  · have hde : decide (T = s.drop m) = false := by rw [decide_eq_false_iff_not]; exact heq
    have HEQ := Lib.hid heq
    rw [hde]
    clear heq hde
    go_simp
    go_wp2
    refine bodyPost_ret (results_tmp2 rfl _ _ _) rfl ?_
    obtain ⟨h1, h2, h3, h4⟩ := HTA.out
    exact ⟨HG9.out, .inr (.inl ⟨h4, by rw [h1, h2]; exact HEQ.out, rfl⟩)⟩

theorem open_any (key : List UInt8) (hk : key.length = 32) (nonce : List UInt8) (hn : nonce.length = 12) (v1 v2 : Value) (h s : List UInt8) (w : World) (hr1 : Rd w v1 (bytesV h)) (hr2 : Rd w v2 (bytesV s)) (hh : h.length ≤ 40000000000) (hs : s.length ≤ 40000000000) :
    Calls Try.prog 11 #[.agg (bytesV key).toArray, .agg (bytesV nonce).toArray, v1, v2] w (OpenOut key nonce h s w) := by
  obtain ⟨A, c, rfl⟩ := hr2.form
  rw [bytesV_len] at hr2 ⊢
  by_cases h16 : s.length < 16
  · exact open_short key nonce v1 A s.length c h s w hr2 h16
  · obtain ⟨ad, rfl, _⟩ := hr2.cells (by intro e; have := congrArg List.length e; rw [bytesV_len] at this; simp at this; simp [this] at h16)
    obtain ⟨m, hm⟩ : ∃ m, s.length = m + 16 := ⟨s.length - 16, by omega⟩
    rw [hm] at hr2 ⊢
    exact open_long key hk nonce hn v1 ad m c h s w hr1 hr2 hh (by omega)
end Go.Proofs.Ytjcbdplbekecjaa
