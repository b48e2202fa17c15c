/-
  Several texts in one file.
-/
import Derived.Test.YtiakkfcjdmecdaaDoorMPtL
import Derived.Laws.OwnMore
import Derived.BigRegion
import Derived.Deep.QuietTactic
/-
  The document's Split over this program; append of texts onto a row of the call's own.
-/
namespace Go.Proofs.YtiakkfcjdmecdaaDoor
set_option maxRecDepth 1000000
open Go.RowKit

theorem infoStr : ∃ i, Tryd.prog.info? 9 = some i ∧ i.zero = some (.string ByteArray.empty) ∧ i.size = 1 ∧ i.bytes = 16 := by
  have h : (Tryd.prog.info? 9).map (fun i => (i.zero, i.size, i.bytes)) = some (some (.string ByteArray.empty), 1, 16) := by kernel_rfl
  obtain ⟨i, hi, he⟩ := Option.map_eq_some_iff.1 h
  simp only [Prod.mk.injEq] at he
  exact ⟨i, hi, he.1, he.2.1, he.2.2⟩
theorem strsV_app (a b : List (List UInt8)) : strsV (a ++ b) = strsV a ++ strsV b := by simp [strsV]
theorem strsV_one (l : List (List UInt8)) : ∀ x ∈ strsV l, x.oneCell' = true := by
  intro x hx
  obtain ⟨c, _, rfl⟩ := List.mem_map.1 hx
  rfl
theorem strsV_set (l : List (List UInt8)) (k : Nat) (p : List UInt8) : (strsV l).set k (.string (bts p)) = strsV (l.set k p) := by simp [strsV, List.map_set]
theorem wpList_append_strs (w : World) {ops : Array Oper} {rest : List Oper} {o : Oper} {a : Act} {Q : Exit → Act → World → Prop} (hgd : o.guard = none) (s x : Operand)
    (ho : o.op = .call { callee := .builtin .append, args := #[s, x], argTypes := #[64, 64] })
    (base : Nat) (v : Value) (n : Nat) (xs : List Value) (hs : a.eval s = v) (hown : w.ownsRow base 9 1 v n xs)
    (u : Value) (l : List (List UInt8)) (hx : a.eval x = u) (hr : Rd w u (strsV l)) (hlen : n + l.length ≤ 1000000000000) (hbase : base ≤ w.heap.size)
    (h : ∀ v' w', w'.ownsRow base 9 1 v' (n + l.length) (xs ++ strsV l) → w.grownBy w' v.ownBlock → (v'.ownBlock = v.ownBlock ∨ v'.ownBlock = some w.heap.size) → wpList Tryd.prog ops Q rest (a.put o.dst v') w') : wpList Tryd.prog ops Q (o :: rest) a w := by
  obtain ⟨i, hi, hz, hs1, hb⟩ := infoStr
  refine wpList_append_rd w hgd s x 64 ho base 9 i (.string ByteArray.empty) 16 Tryd.underlying64 hi hz hs1 hb rfl v n xs hs hown u (strsV l) hx hr (strsV_one _) ?_ ?_ hbase ?_
  · rw [strsV_len]; omega
  · rw [strsV_len]; omega
  · rw [strsV_len]; exact h
theorem own_form {w : World} {base : Nat} {v : Value} {n : Nat} {xs : List Value} (h : w.ownsRow base 9 1 v n xs) (hn : 0 < n) : ∃ g c, v = .slice (some ⟨g, 0, none⟩) n c ∧ base ≤ g := by
  rcases h.2 with ⟨_, h⟩ | ⟨g, cap, cur, h, hb, _⟩
  · omega
  · exact ⟨g, cap, h, hb⟩

theorem own_frozen {w : World} {base g : Nat} {n c : Nat} {xs : List Value} (h : w.ownsRow base 9 1 (.slice (some ⟨g, 0, none⟩) n c) n xs) (j : Nat) : w.frozen? ⟨g, j, none⟩ = false := by
  rcases h.2 with ⟨h, _⟩ | ⟨g', cap, cur, h, _, hrow, _⟩
  · cases h
  · injection h with h1 _ _
    cases h1
    exact frozen_of_row w g j cur 9 hrow
/-- One byte more. -/
theorem parts_next (s : List UInt8) (k : Nat) (h : k < s.length) :
    (s.getD k 0 = 47 ∧ parts (s.take (k + 1)) = parts (s.take k) ++ [[]]) ∨
    (s.getD k 0 ≠ 47 ∧ parts (s.take (k + 1)) = (parts (s.take k)).set ((parts (s.take k)).length - 1) ((parts (s.take k)).getD ((parts (s.take k)).length - 1) [] ++ [s.getD k 0])) := by
  have e : s.take (k + 1) = s.take k ++ [s.getD k 0] := by rw [List.take_add_one, List.getElem?_eq_getElem h]; simp [List.getElem?_eq_getElem h]
  rw [e]
  by_cases hc : s.getD k 0 = 47
  · exact .inl ⟨hc, by rw [hc, parts_app]; rfl⟩
  · refine .inr ⟨hc, ?_⟩
    obtain ⟨q, p, h1, h2⟩ := parts_snoc (s.take k) (s.getD k 0) hc
    rw [h2, h1]
    simp
theorem extract_one (s : ByteArray) (k : Nat) (h : k < s.size) : s.extract k (k + 1) = bts [s.data.toList.getD k 0] := by
  refine of_data ?_
  have hk : k < s.data.toList.length := by rw [← size_len]; exact h
  rw [bts_data, Lib.extract_data, show k + 1 - k = 1 by omega, List.drop_eq_getElem_cons hk]
  simp [List.getElem?_eq_getElem hk]
theorem bts_app (a b : List UInt8) : bts a ++ bts b = bts (a ++ b) := of_data (by simp [bts])

set_option maxHeartbeats 8000000 in
theorem refSplit_any (s : ByteArray) (w : World) (hs : s.size < 1000000) :
    Calls Tryd.prog 66 #[.string s] w (fun e w' => ∃ v, e = .returned v ∧ w'.ownsRow w.heap.size 9 1 v (parts s.data.toList).length (strsV (parts s.data.toList)) ∧ w.grownBy w' none) := by
  go_enter Tryd.func66, Tryd.ntmps66
  go_wp2
  go_loopw [3, 4] (fun v i W => ∃ k : Nat, i = .int .i64 k ∧ k ≤ s.size ∧ W.ownsRow w.heap.size 9 1 v (parts (s.data.toList.take k)).length (strsV (parts (s.data.toList.take k))) ∧ w.grownBy W none) (fun _ i _ => s.size - (intOf i).toNat)
  case atStart => exact ⟨0, rfl, Nat.zero_le _, World.ownsRow_lit w #[.string (bts [])] 1 (Nat.le_refl _) (by decide) rfl, grown_alloc (grown_refl _ _) _⟩
  case round =>
    obtain ⟨k, rfl, hk, ho, hg⟩ := hrel
    have HO := Lib.hid ho
    have HG := Lib.hid hg
    have hne : 0 < (parts (s.data.toList.take k)).length := List.length_pos_iff.2 (parts_ne _)
    have hle : (parts (s.data.toList.take k)).length ≤ k + 1 := by
      rw [parts_len]; have := List.count_le_length (a := (47 : UInt8)) (l := s.data.toList.take k); rw [List.length_take] at this; omega
    obtain ⟨g, c, rfl, hgb⟩ := own_form ho hne
    clear ho hg
    by_cases h : k < s.size
    · have hkl : k < s.data.toList.length := by rw [← size_len]; exact h
      have d0 : decide ((k : Int) < (s.size : Int)) = true := by simp; omega
      have HN := Lib.hid (parts_next s.data.toList k hkl)
      have hb : s.data[k]'h = s.data.toList.getD k 0 := byte_getD s k h
      have HX := Lib.hid (extract_one s k h)
      have HPL := Lib.hid (part_le (s.data.toList.take k))
      generalize hL : parts (s.data.toList.take k) = L at *
      clear hL hkl
      rcases HN.out with ⟨h47, he⟩ | ⟨h47, he⟩
      · have d1 : (((s.data[k]'h).toNat : Int) == 47) = true := by rw [hb, h47]; rfl
        have d2 : (((s[k]'h).toNat : Int) == 47) = true := d1
        have HE := Lib.hid he
        have HK := Lib.hid (And.intro h (And.intro hne hle))
        clear he h47 HN hb
        go_wp2_with (at_builtin; refine wpList_append_strs _ rfl _ _ rfl w.heap.size _ L.length _ rfl (HO.out.alloc _) _ [[]] rfl ?_ ?_ ?_ ?_)
        · exact Rd.one _ _ _
        · simp; omega
        · have := HG.out.size; simp; omega
        · intro v' w' ho hg hat
          have hg2 : w.grownBy w' none := grown_new (grown_alloc HG.out _) hg (fun b hb => by simp [Value.ownBlock] at hb; omega)
          have HO' := Lib.hid ho
          have HG' := Lib.hid hg2
          clear ho hg hat hg2
          go_wp2
          go_roundw
          case rel => exact ⟨k + 1, by go_num, HK.out.1, by rw [HE.out, List.length_append, strsV_app]; exact HO'.out, HG'.out⟩
          case measure =>
            have := HK.out
            simp [intOf]
            omega
      · obtain ⟨m, hm⟩ : ∃ m, L.length = m + 1 := ⟨L.length - 1, by omega⟩
        have d1 : (((s.data[k]'h).toNat : Int) == 47) = false := by
          rw [hb]
          refine beq_eq_false_iff_ne.2 (fun e => h47 (UInt8.toNat_inj.1 (by show _ = 47; omega)))
        have d2 : (((s[k]'h).toNat : Int) == 47) = false := d1
        rw [hm, Nat.add_sub_cancel] at he
        have hcell := (Rd.of_own HO.out).cells (by intro e; have := congrArg List.length e; rw [strsV_len, List.length_nil] at this; omega)
        obtain ⟨ad, hae, hcs⟩ := hcell
        cases hae
        have hc := hcs m _ (strsV_at L m (by omega))
        have hc2 : wr.cell? ⟨g, m, none⟩ = some (.string (bts (L.getD m []))) := by rw [← hc]; congr 1; unfold Addr.add; split <;> simp_all
        have hfz := own_frozen HO.out m
        have HS := Lib.hid (HO.out.stored m (.string (bts (L.getD m [] ++ [s.data.toList.getD k 0]))))
        have HE := Lib.hid he
        have HK := Lib.hid (And.intro h (And.intro hne hle))
        have HBA := Lib.hid (bts_app (L.getD m []) [s.data.toList.getD k 0])
        have HM := Lib.hid hm
        have hm2 : m < 10000000 := by omega
        have hq1 : (bts (L.getD m [])).size < 10000000 := by
          have := HPL.out (L.getD m []) (by rw [List.getD_eq_getElem?_getD, List.getElem?_eq_getElem (by omega)]; simp)
          rw [bts_size]
          rw [List.length_take] at this
          omega
        have he1 : (s.extract k (k + 1)).size = 1 := by rw [HX.out]; rfl
        have c1 : (0 : Int) ≤ (k : Int) := by omega
        have c2 : (k : Int) ≤ (k : Int) + 1 := by omega
        have c3 : (k : Int) + 1 ≤ (s.size : Int) := by omega
        clear he h47 HN hcs hc hb hne hle
        rw [hm]
        clear hm
        generalize L.getD m [] = q at *
        go_wp2
        go_region
        rw [HX.out, HBA.out]
        have hog : w.grownBy ((wr.setCell ⟨g, m, none⟩ (.string (bts (q ++ [s.data.toList.getD k 0])))).drew) none := grown_drew (grown_new HG.out HS.out.2 (fun b hb => by cases hb; exact hgb))
        have hor := own_drew HS.out.1
        have HOG := Lib.hid hog
        have HOR := Lib.hid hor
        clear hog hor hq1 he1
        generalize (wr.setCell ⟨g, m, none⟩ (.string (bts (q ++ [s.data.toList.getD k 0])))).drew = W2 at *
        go_wp2
        go_roundw
        case rel =>
          refine ⟨k + 1, by go_num, HK.out.1, ?_, HOG.out⟩
          have := HOR.out
          rw [strsV_set] at this
          rw [HE.out, List.length_set, HM.out]
          rw [HM.out] at this
          exact this
        case measure =>
          have := HK.out
          simp [intOf]
          omega
    · have d0 : decide ((k : Int) < (s.size : Int)) = false := by simp; omega
      have HT := Lib.hid (show s.data.toList.take k = s.data.toList from List.take_of_length_le (by rw [← size_len]; omega))
      generalize hn : (parts (s.data.toList.take k)).length = n at *
      go_wp2
      go_ret
      refine ⟨_, rfl, ?_, HG.out⟩
      have := HO.out
      rw [← hn, HT.out] at this
      rw [HT.out] at hn
      rw [← hn]
      exact this
end Go.Proofs.YtiakkfcjdmecdaaDoor

/-
  The document's part and Right over this program.
-/
namespace Go.Proofs.YtiakkfcjdmecdaaDoor
set_option maxRecDepth 1000000
open Go.RowKit

theorem okC_tests (c : UInt8) : okC c = !(decide ((c.toNat : Int) < 33) || decide (126 < (c.toNat : Int)) || ((c.toNat : Int) == 92)) := by
  rw [okC, Bool.eq_iff_iff]
  simp
  omega
set_option maxHeartbeats 4000000 in
theorem refPart_any (s : ByteArray) (w : World) (hs : s.size < 1000000000) :
    Calls Tryd.prog 67 #[.string s] w (Val (.bool (partB s.data.toList)) w) := by
  go_enter Tryd.func67, Tryd.ntmps67
  go_wp2
  go_loopw [3] (fun i w' => ∃ k : Nat, i = .int .i64 k ∧ w' = w ∧ k ≤ s.size ∧ (s.data.toList.take k).all okC = true) (fun i _ => s.size - (intOf i).toNat)
  case atStart => exact ⟨0, rfl, rfl, Nat.zero_le _, by simp⟩
  case round =>
    obtain ⟨k, rfl, rfl, hle, hall⟩ := hrel
    have HA := Lib.hid hall
    by_cases h : k < s.size
    · have hkl : k < s.data.toList.length := by rw [← size_len]; exact h
      have hb : s[k]'h = s.data.toList.getD k 0 := byte_getD s k h
      have ht := okC_tests (s.data.toList.getD k 0)
      have HN := Lib.hid (all_take _ _ _ hkl hall)
      have HR := Lib.hid (fun hk => (show Val (.bool (partB s.data.toList)) wr (.returned (.bool false)) wr from ⟨by
            have h1 := all_not s.data.toList okC k hkl hk
            simp [partB, h1], grown_refl _ _⟩))
      have d0 : decide ((k : Int) < (s.size : Int)) = true := by simp; omega
      have HK := Lib.hid h
      rw [← hb] at ht
      have HB := Lib.hid hb
      have a1 : ∀ b, decide (((s[k]'h).toNat : Int) < 33) = b → decide (((s.data[k]'h).toNat : Int) < 33) = b := fun b hb => hb
      have a2 : ∀ b, decide (126 < ((s[k]'h).toNat : Int)) = b → decide (126 < ((s.data[k]'h).toNat : Int)) = b := fun b hb => hb
      have a3 : ∀ b, (((s[k]'h).toNat : Int) == 92) = b → (((s.data[k]'h).toNat : Int) == 92) = b := fun b hb => hb
      clear hall hb hkl
      cases e1 : decide (((s[k]'h).toNat : Int) < 33)
      · cases e2 : decide (126 < ((s[k]'h).toNat : Int))
        · cases e3 : (((s[k]'h).toNat : Int) == 92)
          · have HO := Lib.hid (show okC (s.data.toList.getD k 0) = true by rw [← HB.out, ht, e1, e2, e3]; rfl)
            have f1 := a1 _ e1; have f2 := a2 _ e2; have f3 := a3 _ e3
            clear ht a1 a2 a3
            go_wp2
            go_roundw
            case rel => exact ⟨k + 1, by go_num, trivial, HK.out, by rw [HN.out]; exact HO.out⟩
            case measure =>
              have := HK.out
              simp [intOf]
              omega
          · have HO := Lib.hid (show okC (s.data.toList.getD k 0) = false by rw [← HB.out, ht, e3]; simp)
            have f1 := a1 _ e1; have f2 := a2 _ e2; have f3 := a3 _ e3
            clear ht a1 a2 a3
            go_wp2
            go_ret
            exact HR.out HO.out
        · have HO := Lib.hid (show okC (s.data.toList.getD k 0) = false by rw [← HB.out, ht, e2]; simp)
          have f1 := a1 _ e1; have f2 := a2 _ e2
          clear ht a1 a2 a3
          go_wp2
          go_ret
          exact HR.out HO.out
      · have HO := Lib.hid (show okC (s.data.toList.getD k 0) = false by rw [← HB.out, ht, e1]; simp)
        have f1 := a1 _ e1
        clear ht a1 a2 a3
        go_wp2
        go_ret
        exact HR.out HO.out
    · have d0 : decide ((k : Int) < (s.size : Int)) = false := by simp; omega
      have hall2 : s.data.toList.all okC = true := by rwa [List.take_of_length_le (by rw [← size_len]; omega)] at hall
      have hpB := partB_tests s hall2
      have hemp : s.toList.isEmpty = decide (s.size = 0) := by
        rw [Lib.toList_data, size_len]
        cases s.data.toList <;> simp
      rw [hemp] at hpB
      clear hall hall2 HA hemp
      by_cases hs0 : s.size = 0
      · have e0 : decide ((0 : Int) < (s.size : Int)) = false := decide_eq_false (by omega)
        have e0' : decide (0 < s.size) = false := decide_eq_false (by omega)
        have HB := Lib.hid (show partB s.data.toList = false by rw [hpB, hs0]; simp)
        clear hpB hs0
        go_wp2
        go_ret
        exact ⟨by rw [HB.out]; rfl, grown_refl _ _⟩
      · have e0 : decide ((0 : Int) < (s.size : Int)) = true := decide_eq_true (by omega)
        have e0' : decide (0 < s.size) = true := decide_eq_true (by omega)
        by_cases hs64 : s.size ≤ 64
        · have e1 : decide ((s.size : Int) ≤ 64) = true := by simp; omega
          cases e2 : s.toList == [46]
          · cases e3 : s.toList == [46, 46]
            · have HB := Lib.hid (show partB s.data.toList = true by rw [hpB, e2, e3]; simp [hs64, hs0])
              clear hpB hs64 hs0
              go_wp2
              go_ret
              exact ⟨by rw [HB.out]; rfl, grown_refl _ _⟩
            · have HB := Lib.hid (show partB s.data.toList = false by rw [hpB, e3]; simp)
              clear hpB hs64 hs0
              go_wp2
              go_ret
              exact ⟨by rw [HB.out]; rfl, grown_refl _ _⟩
          · have HB := Lib.hid (show partB s.data.toList = false by rw [hpB, e2]; simp)
            clear hpB hs64 hs0
            go_wp2
            go_ret
            exact ⟨by rw [HB.out]; rfl, grown_refl _ _⟩
        · have e1 : decide ((s.size : Int) ≤ 64) = false := by simp; omega
          have HB := Lib.hid (show partB s.data.toList = false by rw [hpB]; simp [hs64])
          clear hpB hs64 hs0
          go_wp2
          go_ret
          exact ⟨by rw [HB.out]; rfl, grown_refl _ _⟩

set_option maxHeartbeats 4000000 in
theorem refRight_any (s : ByteArray) (w : World) (hs : s.size < 1000000) :
    Calls Tryd.prog 39 #[.string s] w (Val (.bool (rightB s.data.toList)) w) := by
  have HSP := Lib.hid (refSplit_any s w hs)
  have HPL := Lib.hid (part_le s.data.toList)
  have HLE := Lib.hid (parts_size s)
  have HRB := Lib.hid (show rightB s.data.toList = (decide (s.size ≤ 256) && (parts s.data.toList).all partB) by rw [rightB, size_len])
  have hsl := size_len s
  go_enter Tryd.func39, Tryd.ntmps39
  go_wp2_with fail
  refine HSP.out.mono ?_
  rintro e w1 ⟨v, rfl, ho, hg⟩
  obtain ⟨g, c, rfl, _⟩ := own_form ho (List.length_pos_iff.2 (parts_ne _))
  have HR := Lib.hid (Rd.of_own ho)
  have HG := Lib.hid hg
  clear ho hg HSP
  have hpl : ∀ p ∈ parts s.data.toList, p.length < 1000000 := fun p hp => by have := HPL.out p hp; omega
  have hpl2 : (parts s.data.toList).length ≤ 1000000 := by have := HLE.out; omega
  generalize parts s.data.toList = L at *
  have HS := Lib.hid hpl
  have HSL := Lib.hid hsl
  clear hpl HPL HLE hsl
  go_wp2
  go_loopw [4] (fun i W => ∃ k : Nat, i = .int .i64 k ∧ k ≤ L.length ∧ (L.take k).all partB = true ∧ w1.grownBy W none) (fun i _ => L.length - (intOf i).toNat)
  case atStart => exact ⟨0, rfl, Nat.zero_le _, by simp, grown_refl _ _⟩
  case round =>
    obtain ⟨k, rfl, hk, hall, hg⟩ := hrel
    have HA := Lib.hid hall
    have HGR := Lib.hid hg
    clear hall hg
    by_cases h : k < L.length
    · obtain ⟨ad, u, hae, hu, hc⟩ := (HR.out.grown0 HGR.out).cellAt (k := k) h
      cases hae
      obtain ⟨_, rfl⟩ := strs_at L hu
      clear hu
      have hc2 : wr.cell? ⟨g, k, none⟩ = some (.string (bts (L.getD k []))) := by rw [← hc]; congr 1; unfold Addr.add; split <;> simp_all
      have d0 : decide ((k : Int) < (L.length : Int)) = true := by simp; omega
      have hsz : (bts (L.getD k [])).size < 1000000000 := by
        rw [bts_size]
        have := HS.out (L.getD k []) (by simp [List.getElem?_eq_getElem h])
        omega
      have HC := Lib.hid (fun w' => refPart_any (bts (L.getD k [])) w' hsz)
      have HT := Lib.hid (all_takeL L partB k h HA.out)
      have HN := Lib.hid (all_notL L partB k h)
      clear hsz hc
      generalize L.getD k [] = p at *
      go_wp2_with fail
      refine (HC.out _).mono ?_
      rintro e w2 ⟨rfl, hg1⟩
      have HG1 := Lib.hid (World.grownBy.trans HGR.out hg1)
      clear hg1
      rw [bts_data]
      cases hp : partB p
      · go_wp2
        go_ret
        exact ⟨by rw [HRB.out, HN.out hp, Bool.and_false]; rfl, World.grownBy.trans HG.out HG1.out⟩
      · go_wp2
        go_roundw
        case rel => exact ⟨k + 1, by go_num, by omega, by rw [HT.out]; exact hp, HG1.out⟩
        case measure =>
          simp [intOf]
          omega
    · have d0 : decide ((k : Int) < (L.length : Int)) = false := by simp; omega
      have HALL := Lib.hid (show L.all partB = true by have := HA.out; rwa [List.take_of_length_le (by omega)] at this)
      by_cases h256 : s.size ≤ 256
      · have d1 : decide ((s.size : Int) ≤ 256) = true := by simp; omega
        have HD := Lib.hid (decide_eq_true h256)
        clear h256
        go_wp2
        go_ret
        exact ⟨by rw [HRB.out, HALL.out, HD.out]; rfl, World.grownBy.trans HG.out HGR.out⟩
      · have d1 : decide ((s.size : Int) ≤ 256) = false := by simp; omega
        have HD := Lib.hid (decide_eq_false h256)
        clear h256
        go_wp2
        go_ret
        exact ⟨by rw [HRB.out, HALL.out, HD.out]; rfl, World.grownBy.trans HG.out HGR.out⟩
end Go.Proofs.YtiakkfcjdmecdaaDoor

/-
  The document's text and Compare over this program.
-/
namespace Go.Proofs.YtiakkfcjdmecdaaDoor
set_option maxRecDepth 1000000
open Go.RowKit

def Seen (v : Value) (w : World) (e : Ending) (w' : World) : Prop := e = .returned v ∧ ∃ n, w' = w.drewN n
theorem Seen.val {v : Value} {w w' : World} {e : Ending} (h : Seen v w e w') : Val v w e w' := by
  obtain ⟨he, n, hn⟩ := h
  exact ⟨he, by rw [hn]; exact grown_drewN (grown_refl _ _) n⟩
theorem cmpT_at (a b : List UInt8) (k : Nat) (ha : k < a.length) (hb : k < b.length) :
    cmpT (a.drop k) (b.drop k) = if a.getD k 0 < b.getD k 0 then -1 else if b.getD k 0 < a.getD k 0 then 1 else cmpT (a.drop (k + 1)) (b.drop (k + 1)) := by
  rw [List.drop_eq_getElem_cons ha, List.drop_eq_getElem_cons hb]
  have e1 : a.getD k 0 = a[k] := by simp [List.getElem?_eq_getElem ha]
  have e2 : b.getD k 0 = b[k] := by simp [List.getElem?_eq_getElem hb]
  rw [e1, e2]
  show (if cmpC a[k] b[k] = 0 then cmpG cmpC _ _ else cmpC a[k] b[k]) = _
  unfold cmpC
  by_cases h1 : a[k] < b[k]
  · simp [h1]
  · by_cases h2 : b[k] < a[k]
    · simp [h1, h2]
    · simp [h1, h2]; rfl
theorem cmpT_end (a b : List UInt8) (k : Nat) (h : ¬ (k < a.length ∧ k < b.length)) (ha : k ≤ a.length) (hb : k ≤ b.length) :
    cmpT (a.drop k) (b.drop k) = if a.length < b.length then -1 else if b.length < a.length then 1 else 0 := by
  by_cases h1 : k < a.length
  · have h2 : b.length ≤ k := by omega
    rw [List.drop_of_length_le h2, if_neg (by omega), if_pos (by omega), List.drop_eq_getElem_cons h1]
    rfl
  · rw [List.drop_of_length_le (by omega)]
    by_cases h2 : k < b.length
    · rw [if_pos (by omega), List.drop_eq_getElem_cons h2]
      rfl
    · rw [List.drop_of_length_le (by omega), if_neg (by omega), if_neg (by omega)]
      rfl

set_option maxHeartbeats 4000000 in
theorem refText_any (a b : ByteArray) (w : World) (_ : a.size < 1000000000) (_ : b.size < 1000000000) :
    Calls Tryd.prog 68 #[.string a, .string b] w (Seen (.int .i64 (cmpT a.data.toList b.data.toList)) w) := by
  generalize hC : cmpT a.data.toList b.data.toList = C at *
  go_enter Tryd.func68, Tryd.ntmps68
  go_wp2
  go_loopw [5] (fun i w' => ∃ k m : Nat, i = .int .i64 k ∧ w' = w.drewN m ∧ k ≤ a.size ∧ k ≤ b.size ∧ cmpT (a.data.toList.drop k) (b.data.toList.drop k) = C) (fun i _ => a.size - (intOf i).toNat)
  case atStart => exact ⟨0, 0, rfl, rfl, Nat.zero_le _, Nat.zero_le _, hC⟩
  case round =>
    clear hC
    obtain ⟨k, m, rfl, hw, hka, hkb, hc⟩ := hrel
    have HW := Lib.hid hw
    have HC := Lib.hid hc
    clear hw hc
    have la := size_len a
    have lb := size_len b
    by_cases h1 : k < a.size
    · have d0 : decide ((k : Int) < (a.size : Int)) = true := by simp; omega
      by_cases h2 : k < b.size
      · have d1 : decide ((k : Int) < (b.size : Int)) = true := by simp; omega
        have hx : a[k]'h1 = a.data.toList.getD k 0 := byte_getD a k h1
        have hy : b[k]'h2 = b.data.toList.getD k 0 := byte_getD b k h2
        have hst := cmpT_at a.data.toList b.data.toList k (by omega) (by omega)
        rw [HC.out, ← hx, ← hy] at hst
        simp only [UInt8.lt_iff_toNat_lt] at hst
        have HST := Lib.hid hst
        have HB := Lib.hid (And.intro h1 h2)
        clear hx hy hst la lb
        by_cases c1 : (a[k]'h1).toNat < (b[k]'h2).toNat
        · have e1 : decide (((a[k]'h1).toNat : Int) < ((b[k]'h2).toNat : Int)) = true := decide_eq_true (by omega)
          have f1 : decide (((a.data[k]'h1).toNat : Int) < ((b.data[k]'h2).toNat : Int)) = true := e1
          have f2 : decide ((a.data[k]'h1).toNat < (b.data[k]'h2).toNat) = true := decide_eq_true c1
          have g1 : decide ((a[k]'h1).toNat < (b[k]'h2).toNat) = true := decide_eq_true c1
          have HE := Lib.hid (show C = -1 by have := HST.out; rwa [if_pos c1] at this)
          clear c1
          go_wp2
          go_quiet (fail)
          go_wp2
          go_ret
          exact ⟨by rw [HE.out]; rfl, _, by rw [HW.out]; exact World.drewN_drewN _ _ _⟩
        · have e1 : decide (((a[k]'h1).toNat : Int) < ((b[k]'h2).toNat : Int)) = false := decide_eq_false (by omega)
          have f1 : decide (((a.data[k]'h1).toNat : Int) < ((b.data[k]'h2).toNat : Int)) = false := e1
          have f2 : decide ((a.data[k]'h1).toNat < (b.data[k]'h2).toNat) = false := decide_eq_false c1
          have g1 : decide ((a[k]'h1).toNat < (b[k]'h2).toNat) = false := decide_eq_false c1
          by_cases c2 : (b[k]'h2).toNat < (a[k]'h1).toNat
          · have e3 : decide (((b[k]'h2).toNat : Int) < ((a[k]'h1).toNat : Int)) = true := decide_eq_true (by omega)
            have f3 : decide (((b.data[k]'h2).toNat : Int) < ((a.data[k]'h1).toNat : Int)) = true := e3
            have f4 : decide ((b.data[k]'h2).toNat < (a.data[k]'h1).toNat) = true := decide_eq_true c2
            have g2 : decide ((b[k]'h2).toNat < (a[k]'h1).toNat) = true := decide_eq_true c2
            have HE := Lib.hid (show C = 1 by have := HST.out; rwa [if_neg c1, if_pos c2] at this)
            clear c1 c2
            go_wp2
            go_quiet (fail)
            go_wp2
            go_quiet (fail)
            go_wp2
            go_ret
            exact ⟨by rw [HE.out]; rfl, _, by rw [HW.out, World.drewN_drewN]; exact World.drewN_drewN _ _ _⟩
          · have e3 : decide (((b[k]'h2).toNat : Int) < ((a[k]'h1).toNat : Int)) = false := decide_eq_false (by omega)
            have f3 : decide (((b.data[k]'h2).toNat : Int) < ((a.data[k]'h1).toNat : Int)) = false := e3
            have f4 : decide ((b.data[k]'h2).toNat < (a.data[k]'h1).toNat) = false := decide_eq_false c2
            have g2 : decide ((b[k]'h2).toNat < (a[k]'h1).toNat) = false := decide_eq_false c2
            have HE := Lib.hid (show cmpT (a.data.toList.drop (k + 1)) (b.data.toList.drop (k + 1)) = C by have := HST.out; rw [if_neg c1, if_neg c2] at this; exact this.symm)
            clear c1 c2
            go_wp2
            go_quiet (fail)
            go_wp2
            go_quiet (fail)
            go_wp2
            go_roundw
            case rel => exact ⟨k + 1, _, by go_num, by rw [HW.out, World.drewN_drewN], HB.out.1, HB.out.2, HE.out⟩
            case measure =>
              have := HB.out
              simp [intOf]
              omega
      · have d1 : decide ((k : Int) < (b.size : Int)) = false := by simp; omega
        have hE := cmpT_end a.data.toList b.data.toList k (by omega) (by omega) (by omega)
        rw [HC.out, if_neg (by omega), if_pos (by omega)] at hE
        have e1 : decide ((a.size : Int) < (b.size : Int)) = false := decide_eq_false (by omega)
        have e2 : decide ((b.size : Int) < (a.size : Int)) = true := decide_eq_true (by omega)
        have f1 : decide (a.size < b.size) = false := decide_eq_false (by omega)
        have f2 : decide (b.size < a.size) = true := decide_eq_true (by omega)
        have HE := Lib.hid hE
        clear hE la lb hka hkb
        go_wp2
        go_ret
        exact ⟨by rw [HE.out]; rfl, _, HW.out⟩
    · have d0 : decide ((k : Int) < (a.size : Int)) = false := by simp; omega
      have hE := cmpT_end a.data.toList b.data.toList k (by omega) (by omega) (by omega)
      rw [HC.out] at hE
      by_cases h2 : a.size < b.size
      · rw [if_pos (by omega)] at hE
        have e1 : decide ((a.size : Int) < (b.size : Int)) = true := decide_eq_true (by omega)
        have f1 : decide (a.size < b.size) = true := decide_eq_true (by omega)
        have HE := Lib.hid hE
        clear hE la lb hka hkb
        go_wp2
        go_ret
        exact ⟨by rw [HE.out]; rfl, _, HW.out⟩
      · rw [if_neg (by omega), if_neg (by omega)] at hE
        have e1 : decide ((a.size : Int) < (b.size : Int)) = false := decide_eq_false (by omega)
        have e2 : decide ((b.size : Int) < (a.size : Int)) = false := decide_eq_false (by omega)
        have f1 : decide (a.size < b.size) = false := decide_eq_false (by omega)
        have f2 : decide (b.size < a.size) = false := decide_eq_false (by omega)
        have HE := Lib.hid hE
        clear hE la lb hka hkb
        go_wp2
        go_ret
        exact ⟨by rw [HE.out]; rfl, _, HW.out⟩

theorem cmpL_at (a b : List (List UInt8)) (k : Nat) (ha : k < a.length) (hb : k < b.length) :
    cmpL (a.drop k) (b.drop k) = if cmpT (a.getD k []) (b.getD k []) = 0 then cmpL (a.drop (k + 1)) (b.drop (k + 1)) else cmpT (a.getD k []) (b.getD k []) := by
  rw [List.drop_eq_getElem_cons ha, List.drop_eq_getElem_cons hb]
  have e1 : a.getD k [] = a[k] := by simp [List.getElem?_eq_getElem ha]
  have e2 : b.getD k [] = b[k] := by simp [List.getElem?_eq_getElem hb]
  rw [e1, e2]
  rfl
theorem cmpL_end (a b : List (List UInt8)) (k : Nat) (h : ¬ (k < a.length ∧ k < b.length)) (ha : k ≤ a.length) (hb : k ≤ b.length) :
    cmpL (a.drop k) (b.drop k) = if a.length < b.length then -1 else if b.length < a.length then 1 else 0 := by
  by_cases h1 : k < a.length
  · have h2 : b.length ≤ k := by omega
    rw [List.drop_of_length_le h2, if_neg (by omega), if_pos (by omega), List.drop_eq_getElem_cons h1]
    rfl
  · rw [List.drop_of_length_le (by omega)]
    by_cases h2 : k < b.length
    · rw [if_pos (by omega), List.drop_eq_getElem_cons h2]
      rfl
    · rw [List.drop_of_length_le (by omega), if_neg (by omega), if_neg (by omega)]
      rfl
theorem row_cell {w : World} {g n c k : Nat} {L : List (List UInt8)} (h : Rd w (.slice (some ⟨g, 0, none⟩) n c) (strsV L)) (hk : k < L.length) : w.cell? ⟨g, k, none⟩ = some (.string (bts (L.getD k []))) := by
  obtain ⟨ad, hae, hcs⟩ := h.cells (by intro e; have := congrArg List.length e; rw [strsV_len, List.length_nil] at this; omega)
  cases hae
  rw [← hcs k _ (strsV_at L k hk)]
  congr 1; unfold Addr.add; split <;> simp_all

set_option maxHeartbeats 4000000 in
theorem refCompare_any (a b : ByteArray) (w : World) (ha : a.size < 1000000) (hb : b.size < 1000000) :
    Calls Tryd.prog 40 #[.string a, .string b] w (Val (.int .i64 (cmpP a.data.toList b.data.toList)) w) := by
  have HA := Lib.hid (refSplit_any a w ha)
  have HB := Lib.hid (fun w' => refSplit_any b w' hb)
  have hcp : cmpP a.data.toList b.data.toList = cmpL (parts a.data.toList) (parts b.data.toList) := rfl
  have pa : ∀ k, (bts ((parts a.data.toList).getD k [])).size < 1000000000 := by
    intro k
    rw [bts_size]
    by_cases hk : k < (parts a.data.toList).length
    · have := part_le a.data.toList ((parts a.data.toList).getD k []) (by simp [List.getElem?_eq_getElem hk])
      rw [← size_len] at this; omega
    · rw [List.getD_eq_getElem?_getD, List.getElem?_eq_none (by omega)]; simp
  have pb : ∀ k, (bts ((parts b.data.toList).getD k [])).size < 1000000000 := by
    intro k
    rw [bts_size]
    by_cases hk : k < (parts b.data.toList).length
    · have := part_le b.data.toList ((parts b.data.toList).getD k []) (by simp [List.getElem?_eq_getElem hk])
      rw [← size_len] at this; omega
    · rw [List.getD_eq_getElem?_getD, List.getElem?_eq_none (by omega)]; simp
  have na := parts_size a
  have nb := parts_size b
  have nea := parts_ne a.data.toList
  have neb := parts_ne b.data.toList
  rw [hcp]
  clear hcp
  generalize parts a.data.toList = X at *
  generalize parts b.data.toList = Y at *
  have PA := Lib.hid pa
  have PB := Lib.hid pb
  have hx : X.length < 10000000 := by omega
  have hy : Y.length < 10000000 := by omega
  clear pa pb na nb
  generalize hC : cmpL X Y = C at *
  go_enter Tryd.func40, Tryd.ntmps40
  go_wp2_with fail
  refine HA.out.mono ?_
  rintro e w1 ⟨v1, rfl, ho1, hg1⟩
  obtain ⟨g1, c1, rfl, _⟩ := own_form ho1 (List.length_pos_iff.2 nea)
  have HR1 := Lib.hid (Rd.of_own ho1)
  have HG1 := Lib.hid hg1
  clear ho1 hg1 HA nea
  go_wp2_with fail
  refine (HB.out _).mono ?_
  rintro e w2 ⟨v2, rfl, ho2, hg2⟩
  obtain ⟨g2, c2, rfl, _⟩ := own_form ho2 (List.length_pos_iff.2 neb)
  have HR2 := Lib.hid (Rd.of_own ho2)
  have HR1' := Lib.hid (HR1.out.grown0 hg2)
  have HG2 := Lib.hid (World.grownBy.trans HG1.out hg2)
  clear ho2 hg2 HB neb HR1 HG1
  go_wp2
  go_loopw [7] (fun i W => ∃ k : Nat, i = .int .i64 k ∧ k ≤ X.length ∧ k ≤ Y.length ∧ cmpL (X.drop k) (Y.drop k) = C ∧ w2.grownBy W none) (fun i _ => X.length - (intOf i).toNat)
  case atStart => exact ⟨0, rfl, Nat.zero_le _, Nat.zero_le _, hC, grown_refl _ _⟩
  case round =>
    clear hC
    obtain ⟨k, rfl, hka, hkb, hc, hg⟩ := hrel
    have HC := Lib.hid hc
    have HG := Lib.hid hg
    have HGA := Lib.hid (World.grownBy.trans HG2.out hg)
    clear hc hg
    by_cases h1 : k < X.length
    · have d0 : decide ((k : Int) < (X.length : Int)) = true := by simp; omega
      by_cases h2 : k < Y.length
      · have d1 : decide ((k : Int) < (Y.length : Int)) = true := by simp; omega
        have x1 := row_cell (HR1'.out.grown0 HG.out) h1
        have x2 := row_cell (HR2.out.grown0 HG.out) h2
        have HT := Lib.hid (fun n => refText_any (bts (X.getD k [])) (bts (Y.getD k [])) (wr.drewN n) (PA.out k) (PB.out k))
        have HST := Lib.hid (cmpL_at X Y k h1 h2)
        have HK := Lib.hid (And.intro h1 h2)
        clear hka hkb
        generalize X.getD k [] = p at *
        generalize Y.getD k [] = q at *
        go_wp2
        go_quiet ((go_at_call 68; exact Calls.quiet_of (HT.out _)))
        rw [bts_data, bts_data]
        generalize cmpT p q = z at *
        by_cases hz : z = 0
        · have e1 : (z == 0) = true := by rw [hz]; rfl
          have e2 : (z != 0) = false := by rw [hz]; rfl
          have HZ := Lib.hid (show cmpL (X.drop (k + 1)) (Y.drop (k + 1)) = C by have := HST.out; rw [if_pos hz, HC.out] at this; exact this.symm)
          clear hz
          go_wp2
          go_roundw
          case rel => exact ⟨k + 1, by go_num, HK.out.1, HK.out.2, HZ.out, grown_drewN HG.out _⟩
          case measure =>
            have := HK.out
            simp [intOf]
            omega
        · have e1 : (z == 0) = false := beq_eq_false_iff_ne.2 hz
          have e2 : (z != 0) = true := by simp [hz]
          have HZ := Lib.hid (show C = z by have := HST.out; rw [if_neg hz, HC.out] at this; exact this)
          clear hz
          go_wp2
          go_ret
          exact ⟨by rw [HZ.out]; rfl, grown_drewN HGA.out _⟩
      · have d1 : decide ((k : Int) < (Y.length : Int)) = false := by simp; omega
        have hE := cmpL_end X Y k (by omega) hka hkb
        rw [HC.out, if_neg (by omega), if_pos (by omega)] at hE
        have e1 : decide ((X.length : Int) < (Y.length : Int)) = false := decide_eq_false (by omega)
        have e2 : decide ((Y.length : Int) < (X.length : Int)) = true := decide_eq_true (by omega)
        have f1 : decide (X.length < Y.length) = false := decide_eq_false (by omega)
        have f2 : decide (Y.length < X.length) = true := decide_eq_true (by omega)
        have HE := Lib.hid hE
        clear hE hka hkb
        go_wp2
        go_ret
        exact ⟨by rw [HE.out]; rfl, HGA.out⟩
    · have d0 : decide ((k : Int) < (X.length : Int)) = false := by simp; omega
      have hE := cmpL_end X Y k (by omega) hka hkb
      rw [HC.out] at hE
      by_cases h2 : X.length < Y.length
      · rw [if_pos (by omega)] at hE
        have e1 : decide ((X.length : Int) < (Y.length : Int)) = true := decide_eq_true (by omega)
        have f1 : decide (X.length < Y.length) = true := decide_eq_true (by omega)
        have HE := Lib.hid hE
        clear hE hka hkb
        go_wp2
        go_ret
        exact ⟨by rw [HE.out]; rfl, HGA.out⟩
      · rw [if_neg (by omega), if_neg (by omega)] at hE
        have e1 : decide ((X.length : Int) < (Y.length : Int)) = false := decide_eq_false (by omega)
        have e2 : decide ((Y.length : Int) < (X.length : Int)) = false := decide_eq_false (by omega)
        have f1 : decide (X.length < Y.length) = false := decide_eq_false (by omega)
        have f2 : decide (Y.length < X.length) = false := decide_eq_false (by omega)
        have HE := Lib.hid hE
        clear hE hka hkb
        go_wp2
        go_ret
        exact ⟨by rw [HE.out]; rfl, HGA.out⟩
end Go.Proofs.YtiakkfcjdmecdaaDoor

/-
  The document's Below and Parent over this program.
-/
namespace Go.Proofs.YtiakkfcjdmecdaaDoor
set_option maxRecDepth 1000000
open Go.RowKit

theorem take_next (a : List (List UInt8)) (k : Nat) (h : k < a.length) : a.take (k + 1) = a.take k ++ [a.getD k []] := by
  rw [List.take_add_one, List.getElem?_eq_getElem h]; simp [List.getElem?_eq_getElem h]
theorem prefix_take (x y : List (List UInt8)) (h : x.isPrefixOf y = true) : y.take x.length = x := by
  induction x generalizing y with
  | nil => simp
  | cons p x ih =>
    cases y with
    | nil => simp at h
    | cons q y =>
      simp only [List.isPrefixOf_cons_cons, Bool.and_eq_true, beq_iff_eq] at h
      rw [List.length_cons, List.take_succ_cons, ih y h.2, h.1]
theorem take_prefix (x y : List (List UInt8)) (h : y.take x.length = x) : x.isPrefixOf y = true := by
  induction x generalizing y with
  | nil => simp
  | cons p x ih =>
    cases y with
    | nil => simp at h
    | cons q y =>
      rw [List.length_cons, List.take_succ_cons] at h
      simp only [List.cons.injEq] at h
      simp [h.1, ih y h.2]
theorem prefix_not (x y : List (List UInt8)) (k : Nat) (hk : k < x.length) (h : y.getD k [] ≠ x.getD k []) : x.isPrefixOf y = false := by
  rw [← Bool.not_eq_true]
  intro hp
  have := prefix_take x y hp
  apply h
  have h2 := congrArg (fun l => l.getD k []) this
  simp only [List.getD_eq_getElem?_getD, List.getElem?_take, hk, if_true] at h2
  rw [List.getD_eq_getElem?_getD, List.getD_eq_getElem?_getD]
  exact h2
theorem prefix_short (x y : List (List UInt8)) (h : y.length < x.length) : x.isPrefixOf y = false := by
  rw [← Bool.not_eq_true]
  intro hp
  have := congrArg List.length (prefix_take x y hp)
  rw [List.length_take] at this
  omega

theorem join_take (l : List (List UInt8)) (k : Nat) (h : k + 1 < l.length) : join (l.take (k + 1)) ++ [47] ++ l.getD (k + 1) [] = join (l.take (k + 1 + 1)) := by
  rw [take_next l (k + 1) h, join_snoc (by intro e; have := congrArg List.length e; rw [List.length_take, List.length_nil] at this; omega)]
  simp
theorem join_len (l : List (List UInt8)) (k : Nat) : (join (l.take k)).length ≤ (join l).length := by
  induction l generalizing k with
  | nil => simp
  | cons p l ih =>
    cases k with
    | zero => simp [join]
    | succ k =>
      rw [List.take_succ_cons]
      cases l with
      | nil => simp
      | cons q l =>
        cases k with
        | zero => simp [join]
        | succ k =>
          have := ih (k + 1)
          rw [join_cons p (l := (q :: l).take (k + 1)) (by simp), join_cons p (by simp)]
          simp only [List.length_append, List.length_cons]
          omega

end Go.Proofs.YtiakkfcjdmecdaaDoor
