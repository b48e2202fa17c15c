/-
  digest.Of over this program: the digest of parts.
-/
import Derived.Test.YtmhcfbfdbminnaaDoorDigAdd
import Derived.Test.YtmhcfbfdbminnaaDoorDigTold
import Derived.Test.YtmhcfbfdbminnaaDoorDigPad
namespace Go.Proofs.YtmhcfbfdbminnaaDoor
open Go.RowKit

/-- Slices that read as these bytes each. -/
def Parts (w : World) (vs : List Value) (ls : List (List UInt8)) : Prop := vs.length = ls.length ∧ ∀ (i : Nat) u m, vs[i]? = some u → ls[i]? = some m → Rd w u (bytesV m)
theorem Parts.nil (w : World) : Parts w [] [] := ⟨rfl, fun i u m h => by simp at h⟩
theorem Parts.cons {w : World} {u : Value} {m : List UInt8} {vs : List Value} {ls : List (List UInt8)} (h : Rd w u (bytesV m)) (t : Parts w vs ls) : Parts w (u :: vs) (m :: ls) := by
  refine ⟨by simp [t.1], fun i u' m' h1 h2 => ?_⟩
  cases i with
  | zero =>
    simp at h1 h2
    subst h1 h2
    exact h
  | succ i => exact t.2 i u' m' (by simpa using h1) (by simpa using h2)

/-- A message's cells at its beginning. -/
def msg0 : List Value := wordsV start ++ bytesV (List.replicate 64 0) ++ [.int .i64 0]
def msgZ : List Value := wordsV (List.replicate 8 0) ++ bytesV (List.replicate 64 0) ++ [.int .i64 0]
theorem zero_msg : ∀ w, (zeroValue 47).run Tryd.prog w = .ok (.agg msgZ.toArray) w := fun w =>
  (zero_of_info (P := Tryd.prog) (n := 73) (v := .agg msgZ.toArray) (by kernel_rfl)).1 w
theorem build_msg (w : World) : (Instr.build 47 #[(0, .agg (wordsV start).toArray)]).run Tryd.prog w = .ok (.agg msg0.toArray) w := by kernel_rfl

theorem wpList_build_msg (w : World) {ops : Array Oper} {rest : List Oper} {o : Oper} {a : Act} {Q : Exit → Act → World → Prop} (hgd : o.guard = none) (x : Operand) (ho : o.op = .build 47 #[(0, x)]) (hx : a.eval x = .agg (wordsV start).toArray)
    (h : wpList Tryd.prog ops Q rest (a.put o.dst (.agg msg0.toArray)) w) : wpList Tryd.prog ops Q (o :: rest) a w :=
  wpList_plain hgd fun _ hK => by
    have hrun := build_msg w
    unfold Oper.wp execOp
    simp only [ho, List.map_toArray, List.map_cons, List.map_nil, hx, Sem.run_bind, hrun, Result.andThen_ok, Sem.run_pure]
    exact hK _ _ h
theorem msg0_one : ∀ x ∈ msg0, x.oneCell' = true := by
  intro x hx
  unfold msg0 at hx
  simp only [List.mem_append, List.mem_singleton] at hx
  rcases hx with (hx | hx) | rfl
  · exact wordsV_one _ x hx
  · exact bytesV_one _ x hx
  · rfl
theorem Msg.begins {w : World} {g : Nat} (h : Row w g 47 msg0) : Msg w g [] := by
  refine ⟨List.replicate 64 0, ⟨by simp, by simp⟩, ?_⟩
  rw [runB_small _ _ (by simp)]
  exact h
theorem Msg.size {w : World} {g : Nat} {l : List UInt8} (h : Msg w g l) : w.cell? ⟨g, 72, none⟩ = some (.int .i64 (l.length : Int)) := by
  obtain ⟨bl, hb, hr⟩ := h
  refine hr.cell ?_
  have h1 := runB_len start l start_len
  have h2 := hb.1
  rw [List.getElem?_append_right (by rw [List.length_append, wordsV_len, bytesV_len]; omega), List.length_append, wordsV_len, bytesV_len, h1, h2]
  rfl

set_option maxHeartbeats 4000000 in
theorem of_any (v : Value) (vs : List Value) (ls : List (List UInt8)) (w : World) (hT : Tab w) (h0 : 0 < w.heap.size) (hr : Rd w v vs) (hp : Parts w vs ls) (hlen : ls.flatten.length ≤ 100000000000) :
    Calls Tryd.prog 17 #[v] w (Val (.agg (bytesV (sha ls.flatten)).toArray) w) := by
  have HR := Lib.hid hr
  obtain ⟨A, c, rfl⟩ := hr.form
  obtain ⟨hl, hlc, hcm⟩ := hr.len
  have hk := hp.1
  generalize hkk : vs.length = len at *
  have HK := Lib.hid hk
  have HP := Lib.hid hp
  have HKK := Lib.hid hkk
  have HT := Lib.hid hT
  have HLEN := Lib.hid hlen
  have H0 := Lib.hid h0
  unfold maxLen at hcm
  clear hr hl hk hp hkk hT hlen h0
  go_enter Tryd.func17, Tryd.ntmps17
  go_wp2_with fail
  refine (start_any _).mono ?_
  rintro e w1 ⟨rfl, hg1⟩
  have r0 : Row w1 w.heap.size 24 (noughts8 32) := (Row.new w 24 (noughts8 32)).grown0 hg1
  have hg01 : w.grownBy w1 none := (grown_alloc (grown_refl _ _) _).trans hg1
  have hsz : w.heap.size < w1.heap.size := r0.lt
  have hz := zero_msg
  have R0 := Lib.hid r0
  have HG01 := Lib.hid hg01
  have HSZ := Lib.hid hsz
  clear r0 hg01 hsz hg1
  go_wp2_with (first
    | refine wpList_build_msg _ rfl _ rfl rfl ?_
    | (refine wpList_store_row _ rfl rfl _ _ _ rfl w1.heap.size 47 msgZ msg0 rfl rfl (Row.new w1 _ msgZ) rfl msg0_one (by kernel_rfl) ?_; intro w2 hr2 hg2))
  have hm2 := Msg.begins hr2
  have hg2' : w1.grownBy w2 none := grown_own (grown_alloc (grown_refl _ _) _) hg2 (Nat.le_refl _)
  have hgg := HG01.out.trans hg2'
  have r02 := R0.out.grown0 hg2'
  have hsz2 := HSZ.out
  generalize hg : w1.heap.size = g at *
  generalize hG : w.heap.size = G at *
  have HG := Lib.hid hG
  have HM2 := Lib.hid hm2
  have HGG := Lib.hid hgg
  have R02 := Lib.hid r02
  have HGg := Lib.hid hsz2
  clear hr2 hg2 hg2' hm2 hgg r02 hsz2 hz hG hg R0 HSZ HG01
  go_loopw [10] (fun i W => ∃ k : Nat, k ≤ len ∧ i = .int .i64 k ∧ Msg W g (ls.take k).flatten ∧ Row W G 24 (noughts8 32) ∧ w.grownBy W none) (fun i _ => len - (intOf i).toNat)
  case atStart => exact ⟨0, Nat.zero_le _, rfl, HM2.out, R02.out, HGG.out⟩
  case round =>
    clear HM2 R02 HGG
    obtain ⟨k, hk, rfl, hm, hr0, hgr⟩ := hrel
    have HM := Lib.hid hm
    have R0 := Lib.hid hr0
    have HGR := Lib.hid hgr
    clear hm hr0 hgr
    by_cases hlt : k < len
    · obtain ⟨ad, u, rfl, hu, hcell⟩ := Rd.cellAt (HR.out.grown0 HGR.out) hlt
      have hkl : k < ls.length := by rw [← HK.out]; exact hlt
      have hru := HP.out.2 k u _ hu (List.getElem?_eq_getElem hkl)
      have ht : (ls.take (k + 1)).flatten = (ls.take k).flatten ++ ls[k] := by
        rw [List.take_succ_eq_append_getElem hkl, List.flatten_append]
        simp
      have hle : (ls.take k).flatten.length + ls[k].length ≤ 1000000000000 := by
        rw [← List.length_append, ← ht]
        have h1 : ls.flatten = (ls.take (k + 1)).flatten ++ (ls.drop (k + 1)).flatten := by rw [← List.flatten_append, List.take_append_drop]
        have h2 := HLEN.out
        rw [h1, List.length_append] at h2
        omega
      have hnb : ls[k] ≠ [] → u.ownBlock ≠ some g := fun hn e => by
        have h1 := hru.low hn g e
        have h2 := HG.out
        have h3 := HGg.out
        omega
      have HA := add_any g (ls.take k).flatten u ls[k] wr (HT.out.grown HGR.out) (by have := HG.out; have := HGg.out; have := H0.out; omega) HM.out (hru.grown0 HGR.out) hnb hle
      rw [← ht] at HA
      have HADD := Lib.hid HA
      obtain ⟨A2, c2, rfl⟩ := hru.form
      generalize (bytesV ls[k]).length = m2 at *
      clear HA ht hu hru hle hnb
      go_wp2_with fail
      refine HADD.out.mono ?_
      rintro e w3 ⟨rfl, hm3, hg3⟩
      have HM3 := Lib.hid hm3
      have HG3 := Lib.hid hg3
      clear hm3 hg3
      go_wp2
      go_roundw
      case rel => exact ⟨k + 1, by omega, by go_num, HM3.out, R0.out.grown HG3.out (by have := HGg.out; simp; omega), grown_own HGR.out HG3.out (by have := HG.out; have := HGg.out; omega)⟩
      case measure => simp [intOf]; omega
    · have htk : ls.take k = ls := List.take_of_length_le (by rw [← HK.out]; omega)
      rw [htk] at HM
      clear htk
      have hs := HM.out.size
      have hln := HLEN.out
      generalize ls.flatten = l at *
      have HPAD := Lib.hid (pad_any l.length (by omega) wr)
      clear hln
      go_wp2_with fail
      refine HPAD.out.mono ?_
      rintro e w3 ⟨u, rfl, hru, hg3, hub⟩
      have hsz3 := HM.out
      have hglt : g < wr.heap.size := by obtain ⟨bl, _, hr⟩ := hsz3; exact hr.lt
      have hpl := pad_len l.length
      have hpz := padZ_lt l.length
      have HADD := Lib.hid (add_any g l u (pad l.length) w3 (HT.out.grown (HGR.out.trans hg3)) (by have := HG.out; have := HGg.out; have := H0.out; omega) (HM.out.grown hg3 (by simp)) hru (fun _ e => by have := (hub g e).1; omega) (by have := HLEN.out; omega))
      have R03 := Lib.hid (R0.out.grown0 hg3)
      have HG3 := Lib.hid (HGR.out.trans hg3)
      obtain ⟨A2, c2, rfl⟩ := hru.form
      generalize (bytesV (pad l.length)).length = m2 at *
      clear hru hub hg3 hsz3 hglt hpl hpz HPAD
      go_wp2_with fail
      refine HADD.out.mono ?_
      rintro e w4 ⟨rfl, hm4, hg4⟩
      obtain ⟨bl, hbg, hr4⟩ := hm4
      have HSH := Lib.hid (show sha l = told (runB start (l ++ pad l.length)) from rfl)
      have hS8 := runB_len start (l ++ pad l.length) start_len
      generalize runB start (l ++ pad l.length) = S at *
      have R04 := Lib.hid (R03.out.grown hg4 (by have := HGg.out; simp; omega))
      have R4 := Lib.hid hr4
      have HS8 := Lib.hid hS8
      have HG4 := Lib.hid (grown_own HG3.out hg4 (by have := HG.out; have := HGg.out; omega))
      have HTO := Lib.hid (told_any S hS8 w4)
      clear hr4 hg4 hbg hS8 HADD
      go_wp2_with (refine wpList_load_part _ rfl _ _ rfl g 0 47 _ (wordsV S) _ rfl R4.out (fun j u hj => by rw [Nat.zero_add, List.append_assoc, List.getElem?_append_left (List.getElem?_eq_some_iff.1 hj).1]; exact hj) Tryd.underlying44 rfl (by rw [wordsV_len, HS8.out]; kernel_rfl) ?_)
      refine HTO.out.mono ?_
      rintro e w5 ⟨rfl, hg5⟩
      have R05 := Lib.hid (R04.out.grown0 hg5)
      have HG5 := Lib.hid (HG4.out.trans hg5)
      have HL := Lib.hid (show (bytesV (told S)).length = 32 by rw [bytesV_len, told_len, HS8.out])
      have HO := Lib.hid (fun x hx => bytesV_one (told S) x hx)
      have HXS := Lib.hid (show bytesV (sha l) = bytesV (told S) by rw [HSH.out])
      clear hg5 HTO R04 R4 HG4
      generalize bytesV (told S) = xs at *
      go_wp2_with (refine wpList_store_row _ rfl rfl _ _ _ rfl G 24 _ xs rfl rfl R05.out (by rw [HL.out]; rfl) HO.out (by rw [HL.out]; kernel_rfl) ?_; intro w6 hr6 hg6)
      refine bodyPost_ret (v := .agg xs.toArray) ?_ rfl ⟨by rw [HXS.out], grown_own HG5.out hg6 (by have := HG.out; omega)⟩
      exact results_row Tryd.results17 G 24 xs _ rfl hr6 Tryd.underlying24 rfl (by rw [HL.out]; kernel_rfl)
end Go.Proofs.YtmhcfbfdbminnaaDoor
