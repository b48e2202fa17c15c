/-
  The document's Split over this program; append of texts onto a row of the call's own.
-/
import Derived.Test.YtohndlfekecfoaaDoorPtRight
import Derived.Laws.OwnMore
import Derived.BigRegion
namespace Go.Proofs.YtohndlfekecfoaaDoor
set_option maxRecDepth 1000000
open Go.RowKit

theorem infoStr : ∃ i, Tryd.prog.info? 9 = some i ∧ i.zero = some (.string ByteArray.empty) ∧ i.size = 1 ∧ i.bytes = 16 := by
  have h : (Tryd.prog.info? 9).map (fun i => (i.zero, i.size, i.bytes)) = some (some (.string ByteArray.empty), 1, 16) := by kernel_rfl
  obtain ⟨i, hi, he⟩ := Option.map_eq_some_iff.1 h
  simp only [Prod.mk.injEq] at he
  exact ⟨i, hi, he.1, he.2.1, he.2.2⟩
theorem strsV_app (a b : List (List UInt8)) : strsV (a ++ b) = strsV a ++ strsV b := by simp [strsV]
theorem strsV_one (l : List (List UInt8)) : ∀ x ∈ strsV l, x.oneCell' = true := by
  intro x hx
  obtain ⟨c, _, rfl⟩ := List.mem_map.1 hx
  rfl
theorem strsV_set (l : List (List UInt8)) (k : Nat) (p : List UInt8) : (strsV l).set k (.string (bts p)) = strsV (l.set k p) := by simp [strsV, List.map_set]
theorem wpList_append_strs (w : World) {ops : Array Oper} {rest : List Oper} {o : Oper} {a : Act} {Q : Exit → Act → World → Prop} (hgd : o.guard = none) (s x : Operand)
    (ho : o.op = .call { callee := .builtin .append, args := #[s, x], argTypes := #[23, 23] })
    (base : Nat) (v : Value) (n : Nat) (xs : List Value) (hs : a.eval s = v) (hown : w.ownsRow base 9 1 v n xs)
    (u : Value) (l : List (List UInt8)) (hx : a.eval x = u) (hr : Rd w u (strsV l)) (hlen : n + l.length ≤ 1000000000000) (hbase : base ≤ w.heap.size)
    (h : ∀ v' w', w'.ownsRow base 9 1 v' (n + l.length) (xs ++ strsV l) → w.grownBy w' v.ownBlock → (v'.ownBlock = v.ownBlock ∨ v'.ownBlock = some w.heap.size) → wpList Tryd.prog ops Q rest (a.put o.dst v') w') : wpList Tryd.prog ops Q (o :: rest) a w := by
  obtain ⟨i, hi, hz, hs1, hb⟩ := infoStr
  refine wpList_append_rd w hgd s x 23 ho base 9 i (.string ByteArray.empty) 16 Tryd.underlying23 hi hz hs1 hb rfl v n xs hs hown u (strsV l) hx hr (strsV_one _) ?_ ?_ hbase ?_
  · rw [strsV_len]; omega
  · rw [strsV_len]; omega
  · rw [strsV_len]; exact h
theorem own_form {w : World} {base : Nat} {v : Value} {n : Nat} {xs : List Value} (h : w.ownsRow base 9 1 v n xs) (hn : 0 < n) : ∃ g c, v = .slice (some ⟨g, 0, none⟩) n c ∧ base ≤ g := by
  rcases h.2 with ⟨_, h⟩ | ⟨g, cap, cur, h, hb, _⟩
  · omega
  · exact ⟨g, cap, h, hb⟩

theorem own_frozen {w : World} {base g : Nat} {n c : Nat} {xs : List Value} (h : w.ownsRow base 9 1 (.slice (some ⟨g, 0, none⟩) n c) n xs) (j : Nat) : w.frozen? ⟨g, j, none⟩ = false := by
  rcases h.2 with ⟨h, _⟩ | ⟨g', cap, cur, h, _, hrow, _⟩
  · cases h
  · injection h with h1 _ _
    cases h1
    exact frozen_of_row w g j cur 9 hrow
/-- One byte more. -/
theorem parts_next (s : List UInt8) (k : Nat) (h : k < s.length) :
    (s.getD k 0 = 47 ∧ parts (s.take (k + 1)) = parts (s.take k) ++ [[]]) ∨
    (s.getD k 0 ≠ 47 ∧ parts (s.take (k + 1)) = (parts (s.take k)).set ((parts (s.take k)).length - 1) ((parts (s.take k)).getD ((parts (s.take k)).length - 1) [] ++ [s.getD k 0])) := by
  have e : s.take (k + 1) = s.take k ++ [s.getD k 0] := by rw [List.take_add_one, List.getElem?_eq_getElem h]; simp [List.getElem?_eq_getElem h]
  rw [e]
  by_cases hc : s.getD k 0 = 47
  · exact .inl ⟨hc, by rw [hc, parts_app]; rfl⟩
  · refine .inr ⟨hc, ?_⟩
    obtain ⟨q, p, h1, h2⟩ := parts_snoc (s.take k) (s.getD k 0) hc
    rw [h2, h1]
    simp
theorem extract_one (s : ByteArray) (k : Nat) (h : k < s.size) : s.extract k (k + 1) = bts [s.data.toList.getD k 0] := by
  refine of_data ?_
  have hk : k < s.data.toList.length := by rw [← size_len]; exact h
  rw [bts_data, Lib.extract_data, show k + 1 - k = 1 by omega, List.drop_eq_getElem_cons hk]
  simp [List.getElem?_eq_getElem hk]
theorem bts_app (a b : List UInt8) : bts a ++ bts b = bts (a ++ b) := of_data (by simp [bts])

set_option maxHeartbeats 8000000 in
theorem refSplit_any (s : ByteArray) (w : World) (hs : s.size < 1000000) :
    Calls Tryd.prog 13 #[.string s] w (fun e w' => ∃ v, e = .returned v ∧ w'.ownsRow w.heap.size 9 1 v (parts s.data.toList).length (strsV (parts s.data.toList)) ∧ w.grownBy w' none) := by
  go_enter Tryd.func13, Tryd.ntmps13
  go_wp2
  go_loopw [3, 4] (fun v i W => ∃ k : Nat, i = .int .i64 k ∧ k ≤ s.size ∧ W.ownsRow w.heap.size 9 1 v (parts (s.data.toList.take k)).length (strsV (parts (s.data.toList.take k))) ∧ w.grownBy W none) (fun _ i _ => s.size - (intOf i).toNat)
  case atStart => exact ⟨0, rfl, Nat.zero_le _, World.ownsRow_lit w #[.string (bts [])] 1 (Nat.le_refl _) (by decide) rfl, grown_alloc (grown_refl _ _) _⟩
  case round =>
    obtain ⟨k, rfl, hk, ho, hg⟩ := hrel
    have HO := Lib.hid ho
    have HG := Lib.hid hg
    have hne : 0 < (parts (s.data.toList.take k)).length := List.length_pos_iff.2 (parts_ne _)
    have hle : (parts (s.data.toList.take k)).length ≤ k + 1 := by
      rw [parts_len]; have := List.count_le_length (a := (47 : UInt8)) (l := s.data.toList.take k); rw [List.length_take] at this; omega
    obtain ⟨g, c, rfl, hgb⟩ := own_form ho hne
    clear ho hg
    by_cases h : k < s.size
    · have hkl : k < s.data.toList.length := by rw [← size_len]; exact h
      have d0 : decide ((k : Int) < (s.size : Int)) = true := by simp; omega
      have HN := Lib.hid (parts_next s.data.toList k hkl)
      have hb : s.data[k]'h = s.data.toList.getD k 0 := byte_getD s k h
      have HX := Lib.hid (extract_one s k h)
      have HPL := Lib.hid (part_le (s.data.toList.take k))
      generalize hL : parts (s.data.toList.take k) = L at *
      clear hL hkl
      rcases HN.out with ⟨h47, he⟩ | ⟨h47, he⟩
      · have d1 : (((s.data[k]'h).toNat : Int) == 47) = true := by rw [hb, h47]; rfl
        have d2 : (((s[k]'h).toNat : Int) == 47) = true := d1
        have HE := Lib.hid he
        have HK := Lib.hid (And.intro h (And.intro hne hle))
        clear he h47 HN hb
        go_wp2_with (at_builtin; refine wpList_append_strs _ rfl _ _ rfl w.heap.size _ L.length _ rfl (HO.out.alloc _) _ [[]] rfl ?_ ?_ ?_ ?_)
        · exact Rd.one _ _ _
        · simp; omega
        · have := HG.out.size; simp; omega
        · intro v' w' ho hg hat
          have hg2 : w.grownBy w' none := grown_new (grown_alloc HG.out _) hg (fun b hb => by simp [Value.ownBlock] at hb; omega)
          have HO' := Lib.hid ho
          have HG' := Lib.hid hg2
          clear ho hg hat hg2
          go_wp2
          go_roundw
          case rel => exact ⟨k + 1, by go_num, HK.out.1, by rw [HE.out, List.length_append, strsV_app]; exact HO'.out, HG'.out⟩
          case measure =>
            have := HK.out
            simp [intOf]
            omega
      · obtain ⟨m, hm⟩ : ∃ m, L.length = m + 1 := ⟨L.length - 1, by omega⟩
        have d1 : (((s.data[k]'h).toNat : Int) == 47) = false := by
          rw [hb]
          refine beq_eq_false_iff_ne.2 (fun e => h47 (UInt8.toNat_inj.1 (by show _ = 47; omega)))
        have d2 : (((s[k]'h).toNat : Int) == 47) = false := d1
        rw [hm, Nat.add_sub_cancel] at he
        have hcell := (Rd.of_own HO.out).cells (by intro e; have := congrArg List.length e; rw [strsV_len, List.length_nil] at this; omega)
        obtain ⟨ad, hae, hcs⟩ := hcell
        cases hae
        have hc := hcs m _ (strsV_at L m (by omega))
        have hc2 : wr.cell? ⟨g, m, none⟩ = some (.string (bts (L.getD m []))) := by rw [← hc]; congr 1; unfold Addr.add; split <;> simp_all
        have hfz := own_frozen HO.out m
        have HS := Lib.hid (HO.out.stored m (.string (bts (L.getD m [] ++ [s.data.toList.getD k 0]))))
        have HE := Lib.hid he
        have HK := Lib.hid (And.intro h (And.intro hne hle))
        have HBA := Lib.hid (bts_app (L.getD m []) [s.data.toList.getD k 0])
        have HM := Lib.hid hm
        have hm2 : m < 10000000 := by omega
        have hq1 : (bts (L.getD m [])).size < 10000000 := by
          have := HPL.out (L.getD m []) (by rw [List.getD_eq_getElem?_getD, List.getElem?_eq_getElem (by omega)]; simp)
          rw [bts_size]
          rw [List.length_take] at this
          omega
        have he1 : (s.extract k (k + 1)).size = 1 := by rw [HX.out]; rfl
        have c1 : (0 : Int) ≤ (k : Int) := by omega
        have c2 : (k : Int) ≤ (k : Int) + 1 := by omega
        have c3 : (k : Int) + 1 ≤ (s.size : Int) := by omega
        clear he h47 HN hcs hc hb hne hle
        rw [hm]
        clear hm
        generalize L.getD m [] = q at *
        go_wp2
        go_region
        rw [HX.out, HBA.out]
        have hog : w.grownBy ((wr.setCell ⟨g, m, none⟩ (.string (bts (q ++ [s.data.toList.getD k 0])))).drew) none := grown_drew (grown_new HG.out HS.out.2 (fun b hb => by cases hb; exact hgb))
        have hor := own_drew HS.out.1
        have HOG := Lib.hid hog
        have HOR := Lib.hid hor
        clear hog hor hq1 he1
        generalize (wr.setCell ⟨g, m, none⟩ (.string (bts (q ++ [s.data.toList.getD k 0])))).drew = W2 at *
        go_wp2
        go_roundw
        case rel =>
          refine ⟨k + 1, by go_num, HK.out.1, ?_, HOG.out⟩
          have := HOR.out
          rw [strsV_set] at this
          rw [HE.out, List.length_set, HM.out]
          rw [HM.out] at this
          exact this
        case measure =>
          have := HK.out
          simp [intOf]
          omega
    · have d0 : decide ((k : Int) < (s.size : Int)) = false := by simp; omega
      have HT := Lib.hid (show s.data.toList.take k = s.data.toList from List.take_of_length_le (by rw [← size_len]; omega))
      generalize hn : (parts (s.data.toList.take k)).length = n at *
      go_wp2
      go_ret
      refine ⟨_, rfl, ?_, HG.out⟩
      have := HO.out
      rw [← hn, HT.out] at this
      rw [HT.out] at hn
      rw [← hn]
      exact this
end Go.Proofs.YtohndlfekecfoaaDoor
