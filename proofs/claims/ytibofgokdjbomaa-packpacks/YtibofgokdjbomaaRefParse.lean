/-
  The document's Parse over this program.
-/
import Derived.Test.YtibofgokdjbomaaGiven
namespace Go.Proofs.Ytibofgokdjbomaa
set_option maxRecDepth 1000000
open Go.RowKit

theorem mlen_eq (b : List UInt8) (p r n : Nat) (hr : r < p) (h1 : n ≤ 258) (h2 : p + n ≤ b.length) (h3 : ∀ j, j < n → b[r + j]? = b[p + j]?) (h4 : n = 258 ∨ p + n = b.length ∨ b[r + n]? ≠ b[p + n]?) : mlen b p r = n := by
  have hl := nextOf_len b p
  have hs : ∀ j, j < n → (b.drop r)[j]? = (nextOf b p)[j]? := fun j hj => by
    rw [List.getElem?_drop, nextOf_at _ _ _ (by omega)]
    exact h3 j hj
  by_cases he : (nextOf b p).length = n
  · rw [mlen, ← he]
    exact alikeN_all _ _ (by rw [List.length_drop]; omega) (fun j hj => hs j (by omega))
  · refine alikeN_stop _ _ n (by omega) (by rw [List.length_drop]; omega) hs ?_
    rw [List.getElem?_drop, nextOf_at _ _ _ (by omega)]
    rcases h4 with h | h | h
    · omega
    · omega
    · exact h

theorem best_step (b : List UInt8) (p j : Nat) (h1 : 1 ≤ j) (h2 : j ≤ p) : best b p j = if 2 < mlen b p (p - j) ∧ (best b p (j - 1)).len < (mlen b p (p - j) : Nat) then ⟨0, (mlen b p (p - j) : Nat), (j : Int)⟩ else best b p (j - 1) := by
  obtain ⟨k, rfl⟩ : ∃ k, j = k + 1 := ⟨j - 1, by omega⟩
  rw [best, show k + 1 - 1 = k by omega]
  rfl
/-- Ahead of a round. -/
structure RfI (w W : World) (b : List UInt8) (win p : Nat) (v : Value) (l : List Tok) : Prop where
  own : W.ownsRow w.heap.size 41 3 v l.length (tokCs l)
  grow : w.grownBy W none
  eq : ∃ f, parseFrom b win b.length 0 = l ++ parseFrom b win f p ∧ b.length ≤ p + f
  len : l.length ≤ p ∧ p ≤ b.length

set_option maxHeartbeats 2000000 in
theorem refParse_any (v : Value) (b : List UInt8) (win : Int) (w : World) (hv : Rd w v (bytesV b)) (hsm : b.length ≤ 100000) (hw : 1 ≤ win ∧ win ≤ 32768) :
    Calls Try.prog 36 #[v, .int .i64 win] w (ParseOut w (parse b win)) := by
  obtain ⟨A, c, rfl⟩ := hv.form
  simp only [bytesV_len] at hv ⊢
  have hpe : parse b win = parseFrom b win.toNat b.length 0 := by rw [parse, if_pos hw]
  rw [hpe]
  obtain ⟨W, rfl⟩ : ∃ W : Nat, win = (W : Int) := ⟨win.toNat, by omega⟩
  simp only [Int.toNat_natCast]
  have HV := Lib.hid hv
  have HWB := Lib.hid (show 1 ≤ W ∧ W ≤ 32768 by omega)
  clear hv hpe hw
  go_enter Try.func36, Try.ntmps36
  go_wp2
  go_loopw [6, 5] (fun i s V => ∃ (p : Nat) (l : List Tok), i = .int .i64 p ∧ RfI w V b W p s l) (fun i _ _ => b.length - (intOf i).toNat)
  case atStart => exact ⟨0, [], rfl, World.ownsRow_nil _ _ _ _, grown_refl _ _, ⟨b.length, rfl, by omega⟩, Nat.le_refl _, Nat.zero_le _⟩
  case round =>
    obtain ⟨p, l, rfl, hi⟩ := hrel
    obtain ⟨f, hfe, hfl⟩ := hi.eq
    have hll := hi.len
    by_cases hpb : p < b.length
    · obtain ⟨f', rfl⟩ : ∃ f', f = f' + 1 := ⟨f - 1, by omega⟩
      rw [parseFrom, if_pos hpb] at hfe
      obtain ⟨ad, rfl⟩ : ∃ ad, A = some ad := by
        obtain ⟨ad, e, _⟩ := HV.out.cells (by intro e; have := congrArg List.length e; rw [bytesV_len] at this; simp at this; subst this; simp at hpb)
        exact ⟨ad, e⟩
      obtain ⟨y, hy⟩ : ∃ y, b[p]? = some y := ⟨_, List.getElem?_eq_getElem hpb⟩
      have hyd : b.getD p 0 = y := by rw [List.getD_eq_getElem?_getD, hy]; rfl
      have hcy := byte_cell (HV.out.grown0 hi.grow) hy
      have HI := Lib.hid hi
      have HFE := Lib.hid hfe
      have HYD := Lib.hid hyd
      have HHY := Lib.hid hy
      clear hi hfe hyd hy
      -- INNER
      generalize wr = wo at *
      have HNW := Lib.hid (show ∀ k, u5.ownBlock = some k → k < wo.heap.size from fun k e => (HI.out.own.lt k e).2)
      go_wp2
      have hg1 := grown_alloc (grown_refl wo none) (.cells #[.int .u8 (y.toNat : Int), .int .i64 0, .int .i64 0] 41)
      have hr1 : Row (wo.alloc (.cells #[.int .u8 (y.toNat : Int), .int .i64 0, .int .i64 0] 41)) wo.heap.size 41 (tokC (best b p 0)) := by
        rw [best, HYD.out]
        exact Row.new wo _ _
      generalize wo.alloc (.cells #[.int .u8 (y.toNat : Int), .int .i64 0, .int .i64 0] 41) = W1 at *
      have HR1 := Lib.hid hr1
      have HG1 := Lib.hid hg1
      clear hr1 hg1 hcy
      go_loopw [8] (fun i V => ∃ j : Nat, 1 ≤ j ∧ j ≤ min W p + 1 ∧ i = .int .i64 j ∧ Row V wo.heap.size 41 (tokC (best b p (j - 1))) ∧ wo.grownBy V none) (fun i _ => p + 1 - (intOf i).toNat)
      case atStart => exact ⟨1, Nat.le_refl _, by omega, rfl, HR1.out, HG1.out⟩
      case round =>
        obtain ⟨j, hj1, hj2, rfl, hr, hg⟩ := hrel
        have hWs := HWB.out.2
        by_cases hjm : j ≤ min W p
        · have hjW : j ≤ W := by omega
          have hjp : j ≤ p := by omega
          have hd0 : decide ((j : Int) ≤ (W : Int)) = true := by simp; omega
          have hd1 : decide ((j : Int) ≤ (p : Int)) = true := by simp; omega
          generalize wr = wm at *
          have HR0 := Lib.hid hr
          have HG0 := Lib.hid hg
          obtain ⟨r, hr'⟩ : ∃ r, p - j = r := ⟨_, rfl⟩
          have HJR := Lib.hid hr'
          clear hr hg hr'
          go_wp2
          go_loopw [9] (fun i V => ∃ n : Nat, i = .int .i64 n ∧ n ≤ 258 ∧ p + n ≤ b.length ∧ (∀ j', j' < n → b[r + j']? = b[p + j']?) ∧ Row V wo.heap.size 41 (tokC (best b p (j - 1))) ∧ wo.grownBy V none) (fun i _ => 258 - (intOf i).toNat)
          case atStart => exact ⟨0, rfl, by omega, by omega, fun j' h => by omega, HR0.out, HG0.out⟩
          case round =>
            obtain ⟨n, rfl, hn1, hn2, hns, hr, hg⟩ := hrel
            have HR := Lib.hid hr
            have HG := Lib.hid hg
            have HNS := Lib.hid hns
            clear hr hg hns HR0 HG0
            by_cases h258 : n < 258
            · have hd2 : decide ((n : Int) < 258) = true := by simp; omega
              by_cases hpn : p + n < b.length
              · have hpn1 : decide ((p : Int) + (n : Int) < (b.length : Int)) = true := by simp; omega
                obtain ⟨P, hP⟩ : ∃ P, p + n - j = P := ⟨_, rfl⟩
                have hidx : (p : Int) + (n : Int) - (j : Int) = (P : Int) := by omega
                have hPl : P < b.length := by omega
                obtain ⟨x, hx⟩ : ∃ x, b[P]? = some x := ⟨_, List.getElem?_eq_getElem hPl⟩
                obtain ⟨z, hz⟩ : ∃ z, b[p + n]? = some z := ⟨_, List.getElem?_eq_getElem hpn⟩
                have hrd := HV.out.grown0 (HI.out.grow.trans HG.out)
                have cx := byte_cell hrd hx
                have cz := byte_cell hrd hz
                have HX := Lib.hid (show b[r + n]? = some x by rw [show r + n = P by have := HJR.out; omega]; exact hx)
                have HZ := Lib.hid hz
                clear hrd hx hz hP
                by_cases he : x = z
                · have hb : ((x.toNat : Int) == (z.toNat : Int)) = true := by rw [he]; simp
                  go_wp2
                  go_quiet (fail)
                  have hg6 := grown_drewN (grown_refl wr none) nq
                  have HR6 := Lib.hid (HR.out.grown0 hg6)
                  have HG6 := Lib.hid (HG.out.trans hg6)
                  generalize wr.drewN nq = V6 at *
                  clear hg6
                  clear cx cz
                  go_wp2
                  go_roundw
                  case rel => exact ⟨n + 1, rfl, by omega, by omega, fun j' hj' => by
                    by_cases h : j' < n
                    · exact HNS.out j' h
                    · obtain rfl : j' = n := by omega
                      rw [HX.out, HZ.out, he], HR6.out, HG6.out⟩
                  case measure => simp only [intOf]; omega
                · have hb : ((x.toNat : Int) == (z.toNat : Int)) = false := by
                    rw [beq_eq_false_iff_ne]
                    intro h
                    exact he (UInt8.toNat_inj.1 (by omega))
                  have hml := mlen_eq b p r n (by have := HJR.out; omega) hn1 hn2 HNS.out (.inr (.inr (by rw [HX.out, HZ.out]; simpa using he)))
                  go_wp2
                  go_quiet (fail)
                  have hg6 := grown_drewN (grown_refl wr none) nq
                  have HR6 := Lib.hid (HR.out.grown0 hg6)
                  have HG6 := Lib.hid (HG.out.trans hg6)
                  generalize wr.drewN nq = V6 at *
                  clear hg6
                  clear cx cz
                  have hbs := best_step b p j (by omega) (by omega)
                  rw [HJR.out, hml] at hbs
                  have hbl := (best_len b p (j - 1)).1
                  have f1 := HR6.out.cell (j := 1) rfl
                  by_cases h2 : 2 < n
                  · have hd2 : decide (2 < (n : Int)) = true := by simp; omega
                    have hd2' : decide (2 < n) = true := by simpa using h2
                    by_cases h3 : (best b p (j - 1)).len < (n : Int)
                    · have hd3 : decide ((best b p (j - 1)).len < (n : Int)) = true := by simpa using h3
                      rw [if_pos ⟨h2, h3⟩] at hbs
                      have HBS := Lib.hid hbs
                      clear hbs h2 h3 hml
                      go_wp2_with (refine wpList_store_row _ rfl rfl _ _ 41 rfl wo.heap.size 41 _ (tokC ⟨0, (n : Int), (j : Int)⟩) rfl rfl HR6.out rfl (tokC_one _) (by kernel_rfl) ?_; intro W8 hr8 hg8)
                      go_roundw
                      case rel => exact ⟨j + 1, by omega, by omega, rfl, by rw [show j + 1 - 1 = j by omega, HBS.out]; exact hr8, grown_own HG6.out hg8 (Nat.le_refl _)⟩
                      case measure => simp only [intOf]; omega
                    · have hd3 : decide ((best b p (j - 1)).len < (n : Int)) = false := by simpa using h3
                      rw [if_neg (fun h => h3 h.2)] at hbs
                      have HBS := Lib.hid hbs
                      clear hbs h2 h3 hml
                      go_wp2
                      go_roundw
                      case rel => exact ⟨j + 1, by omega, by omega, rfl, by rw [show j + 1 - 1 = j by omega, HBS.out]; exact HR6.out, HG6.out⟩
                      case measure => simp only [intOf]; omega
                  · have hd2 : decide (2 < (n : Int)) = false := by simp; omega
                    have hd2' : decide (2 < n) = false := by simpa using h2
                    rw [if_neg (fun h => h2 h.1)] at hbs
                    have HBS := Lib.hid hbs
                    clear hbs h2 hml
                    go_wp2
                    go_roundw
                    case rel => exact ⟨j + 1, by omega, by omega, rfl, by rw [show j + 1 - 1 = j by omega, HBS.out]; exact HR6.out, HG6.out⟩
                    case measure => simp only [intOf]; omega
              · have hml := mlen_eq b p r n (by have := HJR.out; omega) hn1 hn2 HNS.out (.inr (.inl (by omega)))
                have hpn1 : decide ((p : Int) + (n : Int) < (b.length : Int)) = false := by simp; omega
                have hpn2 : decide (p + n < b.length) = false := by simp; omega
                go_wp2
                go_quiet (fail)
                have hg6 := grown_drewN (grown_refl wr none) nq
                have HR6 := Lib.hid (HR.out.grown0 hg6)
                have HG6 := Lib.hid (HG.out.trans hg6)
                generalize wr.drewN nq = V6 at *
                clear hg6
                have hbs := best_step b p j (by omega) (by omega)
                rw [HJR.out, hml] at hbs
                have hbl := (best_len b p (j - 1)).1
                have f1 := HR6.out.cell (j := 1) rfl
                by_cases h2 : 2 < n
                · have hd2 : decide (2 < (n : Int)) = true := by simp; omega
                  have hd2' : decide (2 < n) = true := by simpa using h2
                  by_cases h3 : (best b p (j - 1)).len < (n : Int)
                  · have hd3 : decide ((best b p (j - 1)).len < (n : Int)) = true := by simpa using h3
                    rw [if_pos ⟨h2, h3⟩] at hbs
                    have HBS := Lib.hid hbs
                    clear hbs h2 h3 hml
                    go_wp2_with (refine wpList_store_row _ rfl rfl _ _ 41 rfl wo.heap.size 41 _ (tokC ⟨0, (n : Int), (j : Int)⟩) rfl rfl HR6.out rfl (tokC_one _) (by kernel_rfl) ?_; intro W8 hr8 hg8)
                    go_roundw
                    case rel => exact ⟨j + 1, by omega, by omega, rfl, by rw [show j + 1 - 1 = j by omega, HBS.out]; exact hr8, grown_own HG6.out hg8 (Nat.le_refl _)⟩
                    case measure => simp only [intOf]; omega
                  · have hd3 : decide ((best b p (j - 1)).len < (n : Int)) = false := by simpa using h3
                    rw [if_neg (fun h => h3 h.2)] at hbs
                    have HBS := Lib.hid hbs
                    clear hbs h2 h3 hml
                    go_wp2
                    go_roundw
                    case rel => exact ⟨j + 1, by omega, by omega, rfl, by rw [show j + 1 - 1 = j by omega, HBS.out]; exact HR6.out, HG6.out⟩
                    case measure => simp only [intOf]; omega
                · have hd2 : decide (2 < (n : Int)) = false := by simp; omega
                  have hd2' : decide (2 < n) = false := by simpa using h2
                  rw [if_neg (fun h => h2 h.1)] at hbs
                  have HBS := Lib.hid hbs
                  clear hbs h2 hml
                  go_wp2
                  go_roundw
                  case rel => exact ⟨j + 1, by omega, by omega, rfl, by rw [show j + 1 - 1 = j by omega, HBS.out]; exact HR6.out, HG6.out⟩
                  case measure => simp only [intOf]; omega
            · have hd2 : decide ((n : Int) < 258) = false := by simp; omega
              have hml := mlen_eq b p r n (by have := HJR.out; omega) hn1 hn2 HNS.out (.inl (by omega))
              have hd2' : decide (n < 258) = false := by simp; omega
              have hn257 : 257 < n := by omega
              clear h258
              go_wp2
              go_quiet (fail)
              have hg6 := grown_drewN (grown_refl wr none) nq
              have HR6 := Lib.hid (HR.out.grown0 hg6)
              have HG6 := Lib.hid (HG.out.trans hg6)
              generalize wr.drewN nq = V6 at *
              clear hg6
              have hbs := best_step b p j (by omega) (by omega)
              rw [HJR.out, hml] at hbs
              have hbl := (best_len b p (j - 1)).1
              have f1 := HR6.out.cell (j := 1) rfl
              by_cases h2 : 2 < n
              · have hd2 : decide (2 < (n : Int)) = true := by simp; omega
                have hd2' : decide (2 < n) = true := by simpa using h2
                by_cases h3 : (best b p (j - 1)).len < (n : Int)
                · have hd3 : decide ((best b p (j - 1)).len < (n : Int)) = true := by simpa using h3
                  rw [if_pos ⟨h2, h3⟩] at hbs
                  have HBS := Lib.hid hbs
                  clear hbs h2 h3 hml
                  go_wp2_with (refine wpList_store_row _ rfl rfl _ _ 41 rfl wo.heap.size 41 _ (tokC ⟨0, (n : Int), (j : Int)⟩) rfl rfl HR6.out rfl (tokC_one _) (by kernel_rfl) ?_; intro W8 hr8 hg8)
                  go_roundw
                  case rel => exact ⟨j + 1, by omega, by omega, rfl, by rw [show j + 1 - 1 = j by omega, HBS.out]; exact hr8, grown_own HG6.out hg8 (Nat.le_refl _)⟩
                  case measure => simp only [intOf]; omega
                · have hd3 : decide ((best b p (j - 1)).len < (n : Int)) = false := by simpa using h3
                  rw [if_neg (fun h => h3 h.2)] at hbs
                  have HBS := Lib.hid hbs
                  clear hbs h2 h3 hml
                  go_wp2
                  go_roundw
                  case rel => exact ⟨j + 1, by omega, by omega, rfl, by rw [show j + 1 - 1 = j by omega, HBS.out]; exact HR6.out, HG6.out⟩
                  case measure => simp only [intOf]; omega
              · have hd2 : decide (2 < (n : Int)) = false := by simp; omega
                have hd2' : decide (2 < n) = false := by simpa using h2
                rw [if_neg (fun h => h2 h.1)] at hbs
                have HBS := Lib.hid hbs
                clear hbs h2 hml
                go_wp2
                go_roundw
                case rel => exact ⟨j + 1, by omega, by omega, rfl, by rw [show j + 1 - 1 = j by omega, HBS.out]; exact HR6.out, HG6.out⟩
                case measure => simp only [intOf]; omega
        · have htk : tokAt b W p = best b p (j - 1) := by unfold tokAt; congr 1; omega
          obtain ⟨m, e1, e2, e3⟩ := tokAt_bound b W p hpb
          have hbl := (best_len b p (j - 1)).1
          have hts : tsize (best b p (j - 1)) = (m : Int) := by rw [← htk, e1]
          rw [htk, hts, Int.toNat_natCast] at HFE
          have f0 := hr.cell (j := 0) rfl
          have f1 := hr.cell (j := 1) rfl
          have f2 := hr.cell (j := 2) rfl
          have HR0 := Lib.hid hr
          have HG0 := Lib.hid hg
          have HX := Lib.hid (own_grown HI.out.own hg)
          have HX2 := Lib.hid (HI.out.grow.trans hg)
          have HB2 := Lib.hid (show w.heap.size ≤ wr.heap.size by exact HX2.out.size)
          have hlen := HI.out.len
          clear hr hg htk e1
          generalize best b p (j - 1) = t at *
          have htm : (m : Int) = max 1 t.len := by unfold tsize at hts; omega
          have htl : t.len ≤ 100000 := by omega
          have hdd : decide ((j : Int) ≤ (W : Int)) = true ∧ decide ((j : Int) ≤ (p : Int)) = false ∨ decide ((j : Int) ≤ (W : Int)) = false := by simp; omega
          clear hts
          rcases hdd with ⟨hd0, hd1⟩ | hd0
          all_goals
            go_wp2_with (first
              | (refine wpList_buildTok rfl _ 41 40 (.inr ⟨rfl, rfl⟩) rfl t rfl ?_)
              | (at_builtin; refine wpList_appTok rfl _ _ 41 40 (.inr ⟨rfl, rfl⟩) rfl w.heap.size u5 l.length (tokCs l) rfl (own_grown HX.out (grown_alloc (grown_refl _ none) _)) _ t rfl (Row.new _ _ (tokC t)) (by omega) (Nat.le_trans HB2.out (by simp)) ?_; intro g' c' w7 ho7 hg7 hat7; have HO7 := Lib.hid ho7; have HG7 := Lib.hid hg7; have R7 := ((HR0.out.grown0 (grown_alloc (grown_refl wr none) (.cells (tokC t).toArray 41))).grown hg7 (fun e => by have h1 := HNW.out _ e.symm; omega)); have f1' := R7.cell (j := 1) rfl; clear ho7 hg7 hat7 f0 f1 f2 R7))
            all_goals
              go_roundw
              case rel =>
                refine ⟨p + m, l ++ [t], by congr 1; omega, ?_⟩
                exact {
                  own := by rw [tokCs_app, show tokCs [t] = tokC t by simp [tokCs], List.length_append]; exact HO7.out
                  grow := grown_new (grown_alloc HX2.out _) HG7.out (fun k e => (HX.out.lt k e).1)
                  eq := ⟨f', by rw [HFE.out]; simp, by omega⟩
                  len := ⟨by simp; omega, e3⟩ }
              case measure =>
                simp only [intOf]
                omega
    · rw [parseFrom_done b W f p (by omega), List.append_nil] at hfe
      have HO := Lib.hid (RdT.of_own rfl hi.own)
      have HG := Lib.hid hi.grow
      have HFE := Lib.hid hfe
      clear hi hfe
      go_wp2
      go_ret
      exact ⟨_, rfl, by rw [HFE.out]; exact HO.out, HG.out⟩
end Go.Proofs.Ytibofgokdjbomaa
