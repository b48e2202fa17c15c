/-
  The document's own code of bytes under a key, over this program.
-/
import Derived.Test.YtmhcfbfdbminnaaDoorRefOf
import Derived.Test.YtmhcfbfdbminnaaDoorHmac
namespace Go.Proofs.YtmhcfbfdbminnaaDoor
open Go.RowKit

/-- A row of bytes of one byte. -/
theorem Rd.byte (w : World) (x : UInt8) {H : Nat} (hH : w.heap.size = H) : Rd (w.alloc (.cells #[byteV x] 5)) (.slice (some ⟨H, 0, none⟩) 1 1) (bytesV [x]) := by
  subst hH
  exact Rd.one w (byteV x) 5
theorem own_nil (w : World) (base : Nat) : w.ownsRow base 5 1 (.slice none 0 0) 0 [] := ⟨rfl, .inl ⟨rfl, rfl⟩⟩

/-- What the loop that lays noughts leaves: the key, as long as it is, and noughts behind it. -/
theorem zeros_more (k : List UInt8) (j : Nat) : (k ++ List.replicate j 0) ++ [0] = k ++ List.replicate (j + 1) 0 := by
  rw [List.append_assoc, List.replicate_succ']

theorem own_kept0 {w w' : World} {base n : Nat} {e : TypeId} {v : Value} {xs : List Value} (h : w.ownsRow base e 1 v n xs) (hg : w.grownBy w' none) : w'.ownsRow base e 1 v n xs := h.kept hg (Classical.em _)
def sliceLen : Value → Nat
  | .slice _ m _ => m
  | _ => 0
theorem take_mask (m : UInt8) (K : List UInt8) (i : Nat) (h : i < K.length) : (mask m K).take (i + 1) = (mask m K).take i ++ [K[i] ^^^ m] := by
  rw [List.take_succ_eq_append_getElem (by rw [mask_len]; exact h)]
  simp [mask]

set_option maxHeartbeats 4000000 in
theorem refCode_own (A : Option Addr) (n c : Nat) (k : List UInt8) (A1 : Option Addr) (n1 c1 : Nat) (l : List UInt8) (w : World) (hr : Rd w (.slice A n c) (bytesV k)) (hr1 : Rd w (.slice A1 n1 c1) (bytesV l)) (hn : n ≤ 900) (hn1 : n1 ≤ 900) :
    Calls Tryd.prog 12 #[.slice A n c, .slice A1 n1 c1] w fun e w' => ∃ u, e = .returned u ∧ w'.ownsRow w.heap.size 5 1 u (hmac k l).length (bytesV (hmac k l)) ∧ w.grownBy w' none := by
  have HR := Lib.hid hr
  have HR1 := Lib.hid hr1
  have hl := hr.len.1
  have hl1 := hr1.len.1
  rw [bytesV_len] at hl hl1
  subst hl hl1
  have HL := Lib.hid (And.intro hn hn1)
  have HH := Lib.hid (show hmac k l = sha (mask 92 (bkey k) ++ sha (mask 54 (bkey k) ++ l)) from rfl)
  have HKL := Lib.hid (bkey_len k)
  have HBK := Lib.hid (show bkey k = shortK k ++ List.replicate (64 - (shortK k).length) 0 from rfl)
  have HSL := Lib.hid (shortK_le k)
  have HSK := Lib.hid (show shortK k = if 64 < k.length then sha k else k from rfl)
  clear hr hr1
  go_enter Tryd.func12, Tryd.ntmps12
  go_wp2_with (at_builtin; refine wpList_append_bytes _ rfl _ _ rfl w.heap.size _ 0 [] rfl (own_empty w _ (Nat.le_refl _)) _ k rfl (HR.out.alloc _) ?_ ?_ ?_)
  · have := HL.out; omega
  · simp
  intro v1 w1 ho1 hg1 hat1
  have hg01 : w.grownBy w1 none := grown_new (grown_alloc (grown_refl _ _) _) hg1 (fun b hb => by simp [Value.ownBlock] at hb; omega)
  have HO1 := Lib.hid (show w1.ownsRow w.heap.size 5 1 v1 k.length (bytesV k) by simpa using ho1)
  have HG1 := Lib.hid hg01
  clear ho1 hg1 hat1 hg01
  obtain ⟨A2, c2, rfl⟩ := (Rd.of_own HO1.out).form
  rw [bytesV_len] at *
  by_cases h : 64 < k.length
  case' pos =>
    have hb : decide (64 < (k.length : Int)) = true := by simp; omega
    have HOF := Lib.hid (refOf_own (.slice A2 k.length c2) k w1 (by have := Rd.of_own HO1.out; exact this) (by have := HL.out; omega))
    have hsk : shortK k = sha k := by rw [HSK.out, if_pos (by have := HL.out; omega)]
    go_wp2_with fail
    refine HOF.out.mono ?_
    rintro e w3 ⟨u3, rfl, ho3, hg3⟩
    rw [← hsk] at ho3
    have HO3 := Lib.hid (own_base ho3 HG1.out.size)
    have HG3 := Lib.hid (HG1.out.trans hg3)
    clear ho3 hg3 hsk HOF h
    go_wp2
  case' neg =>
    have hb : decide (64 < (k.length : Int)) = false := by simp; omega
    have hsk : shortK k = k := by rw [HSK.out, if_neg (by have := HL.out; omega)]
    obtain ⟨w3, hw3⟩ : ∃ w3, w3 = w1 := ⟨_, rfl⟩
    obtain ⟨u3, hu3⟩ : ∃ u3, u3 = Value.slice A2 k.length c2 := ⟨_, rfl⟩
    have HO3 := Lib.hid (show w3.ownsRow w.heap.size 5 1 u3 (shortK k).length (bytesV (shortK k)) by rw [hsk, hw3, hu3]; exact HO1.out)
    have HG3 := Lib.hid (show w.grownBy w3 none by rw [hw3]; exact HG1.out)
    have HW3 := Lib.hid (And.intro hw3 hu3)
    clear hsk h hw3 hu3
    go_wp2
    rw [← HW3.out.1, ← HW3.out.2]
  all_goals
    clear HO1 HG1 HSK
    generalize shortK k = sk at *
    go_loopw [5] (fun v W => ∃ j : Nat, sk.length + j ≤ 64 ∧ W.ownsRow w.heap.size 5 1 v (sk.length + j) (bytesV (sk ++ List.replicate j 0)) ∧ w.grownBy W none) (fun v _ => 64 - sliceLen v)
    case atStart => exact ⟨0, HSL.out, by simpa using HO3.out, HG3.out⟩
    case round =>
      clear HO3 HG3
      obtain ⟨j, hj, ho, hgr⟩ := hrel
      have HO := Lib.hid ho
      have HGR := Lib.hid hgr
      have hf := (Rd.of_own ho).form
      rw [bytesV_len, List.length_append, List.length_replicate] at hf
      obtain ⟨A4, c4, rfl⟩ := hf
      clear ho hgr
      by_cases hlt : sk.length + j < 64
      · have hb4 : decide (((sk.length + j : Nat) : Int) < 64) = true := by simp; omega
        go_wp2_with (at_builtin; refine wpList_append_bytes _ rfl _ _ rfl w.heap.size _ _ _ rfl (own_kept0 HO.out (grown_alloc (grown_refl _ none) _)) _ [0] rfl (Rd.byte wr 0 rfl) ?_ ?_ ?_)
        · simp; omega
        · have := HGR.out.size; simp; omega
        · intro v5 w5 ho5 hg5 hat5
          have hgw5 : w.grownBy w5 none := grown_new (grown_alloc HGR.out _) hg5 (fun b hb => (HO.out.lt b hb).1)
          have ho5' : w5.ownsRow w.heap.size 5 1 v5 (sk.length + (j + 1)) (bytesV (sk ++ List.replicate (j + 1) 0)) := by
            rw [← zeros_more, bytesV_app]
            exact ho5
          have hf := (Rd.of_own ho5').form
          rw [bytesV_len, List.length_append, List.length_replicate] at hf
          obtain ⟨A5, c5, rfl⟩ := hf
          have HO5 := Lib.hid ho5'
          have HG5 := Lib.hid hgw5
          clear ho5 hg5 hat5 hgw5 ho5'
          go_wp2
          go_roundw
          case rel => exact ⟨j + 1, by omega, HO5.out, HG5.out⟩
          case measure => simp only [sliceLen]; omega
      · have hb4 : decide (((sk.length + j : Nat) : Int) < 64) = false := by simp; omega
        have hK : sk ++ List.replicate j 0 = bkey k := by rw [HBK.out, show j = 64 - sk.length by omega]
        rw [hK] at HO
        have HKR := Lib.hid (Rd.of_own HO.out)
        have h64 : sk.length + j = 64 := by omega
        rw [h64] at HKR hb4 ⊢
        clear hlt hj hK HO HBK HSL h64
        generalize bkey k = K at *
        go_wp2
        generalize hWW : wr = W0 at *
        clear hWW
        go_loopw [6, 7, 8] (fun vi vo x W => ∃ i : Nat, i ≤ 64 ∧ x = .int .i64 i ∧ W.ownsRow W0.heap.size 5 1 vi i (bytesV ((mask 54 K).take i)) ∧ W.ownsRow W0.heap.size 5 1 vo i (bytesV ((mask 92 K).take i)) ∧ (∀ b, vi.ownBlock = some b → vo.ownBlock ≠ some b) ∧ W0.grownBy W none) (fun _ _ x _ => 64 - (intOf x).toNat)
        case atStart => exact ⟨0, Nat.zero_le _, rfl, own_nil _ _, own_nil _ _, fun b hb => by simp [Value.ownBlock] at hb, grown_refl _ _⟩
        case round =>
          obtain ⟨i, hi, rfl, hoi, hoo, hap, hgr⟩ := hrel
          have HOI := Lib.hid hoi
          have HOO := Lib.hid hoo
          have HAP := Lib.hid hap
          have HGR' := Lib.hid hgr
          clear hoi hoo hap hgr
          by_cases hlt : i < 64
          · have hiK : i < K.length := by rw [HKL.out]; exact hlt
            have hbi : decide ((i : Int) < 64) = true := by simp; omega
            obtain ⟨ad, u, rfl, hu, hcell⟩ := Rd.cellAt (HKR.out.grown0 HGR'.out) hlt
            have hu' : u = .int .u8 (K[i].toNat : Int) := by
              have : (bytesV K)[i]? = some (.int .u8 (K[i].toNat : Int)) := by simp [bytesV, byteV, List.getElem?_eq_getElem hiK]
              rw [this] at hu
              exact (Option.some.inj hu).symm
            subst hu'
            have h54 : bits .xor .u8 (K[i].toNat : Int) 54 = ((K[i] ^^^ 54).toNat : Int) := xor8 K[i] 54
            have h92 : bits .xor .u8 (K[i].toNat : Int) 92 = ((K[i] ^^^ 92).toNat : Int) := xor8 K[i] 92
            have HT54 := Lib.hid (take_mask 54 K i hiK)
            have HT92 := Lib.hid (take_mask 92 K i hiK)
            have HXU := Lib.hid hu
            generalize K[i] ^^^ 54 = y1 at *
            generalize K[i] ^^^ 92 = y2 at *
            generalize K[i] = x at *
            clear hu hiK
            go_wp2_with (at_builtin; refine wpList_append_bytes _ rfl _ _ rfl W0.heap.size _ _ _ rfl (own_kept0 HOI.out (grown_alloc (grown_refl _ none) _)) _ [y1] rfl (Rd.byte wr y1 rfl) ?_ ?_ ?_)
            · simp; omega
            · have := HGR'.out.size; simp; omega
            · intro v5 w5 ho5 hg5 hat5
              have hgw5 : W0.grownBy w5 none := grown_new (grown_alloc HGR'.out _) hg5 (fun b hb => (HOI.out.lt b hb).1)
              have ho5' : w5.ownsRow W0.heap.size 5 1 v5 (i + 1) (bytesV ((mask 54 K).take (i + 1))) := by
                rw [HT54.out, bytesV_app]
                exact ho5
              have hoo5 : w5.ownsRow W0.heap.size 5 1 u7 i (bytesV ((mask 92 K).take i)) := (own_kept0 HOO.out (grown_alloc (grown_refl wr none) _)).kept hg5 (by
                cases h : u7.ownBlock with
                | none => exact .inl rfl
                | some b => exact .inr (fun e => HAP.out b e.symm h))
              have hap5 : ∀ b, v5.ownBlock = some b → u7.ownBlock ≠ some b := fun b hb e => by
                rcases hat5 with h | h
                · exact HAP.out b (h ▸ hb) e
                · have h1 := (HOO.out.lt b e).2
                  rw [h] at hb
                  injection hb with hb
                  omega
              have hcw5 : w5.cell? (ad.add i) = some (.int .u8 (x.toNat : Int)) := by
                obtain ⟨ad', e, hc⟩ := (HKR.out.grown0 hgw5).cells (fun e => by have := HXU.out; rw [e] at this; cases this)
                injection e with e
                subst e
                exact hc i _ HXU.out
              have HO5 := Lib.hid ho5'
              have HOO5 := Lib.hid hoo5
              have HAP5 := Lib.hid hap5
              have HGW5 := Lib.hid hgw5
              obtain ⟨A5, c5, rfl⟩ := (Rd.of_own ho5').form
              clear ho5 hg5 hat5 hgw5 ho5' hoo5 hap5 hcell
              go_wp2_with (at_builtin; refine wpList_append_bytes _ rfl _ _ rfl W0.heap.size _ _ _ rfl (own_kept0 HOO5.out (grown_alloc (grown_refl _ none) _)) _ [y2] rfl (Rd.byte w5 y2 rfl) ?_ ?_ ?_)
              · simp; omega
              · have := HGW5.out.size; simp; omega
              · intro v6 w6 ho6 hg6 hat6
                have hgw6 : W0.grownBy w6 none := grown_new (grown_alloc HGW5.out _) hg6 (fun b hb => (HOO5.out.lt b hb).1)
                have ho6' : w6.ownsRow W0.heap.size 5 1 v6 (i + 1) (bytesV ((mask 92 K).take (i + 1))) := by
                  rw [HT92.out, bytesV_app]
                  exact ho6
                have hoi6 := (own_kept0 HO5.out (grown_alloc (grown_refl w5 none) (.cells #[byteV y2] 5))).kept hg6 (Classical.or_iff_not_imp_left.2 fun hn e => by
                  cases h : (Value.slice A5 (bytesV ((mask 54 K).take (i + 1))).length c5).ownBlock with
                  | none => exact hn h
                  | some b => exact HAP5.out b h (e.symm.trans h))
                have hap6 : ∀ b, (Value.slice A5 (bytesV ((mask 54 K).take (i + 1))).length c5).ownBlock = some b → v6.ownBlock ≠ some b := fun b hb e => by
                  rcases hat6 with h | h
                  · exact HAP5.out b hb (h ▸ e)
                  · have h1 := (HO5.out.lt b hb).2
                    rw [h] at e
                    injection e with e
                    omega
                have HO6 := Lib.hid ho6'
                have HOI6 := Lib.hid hoi6
                have HAP6 := Lib.hid hap6
                have HGW6 := Lib.hid hgw6
                obtain ⟨A6, c6, rfl⟩ := (Rd.of_own ho6').form
                clear ho6 hg6 hat6 hgw6 ho6' hoi6 hap6 hcw5
                go_wp2
                go_roundw
                case rel => exact ⟨i + 1, by omega, by go_num, HOI6.out, HO6.out, HAP6.out, HGW6.out⟩
                case measure => simp [intOf]; omega
          · have hbi : decide ((i : Int) < 64) = false := by simp; omega
            have e54 : (mask 54 K).take i = mask 54 K := List.take_of_length_le (by rw [mask_len, HKL.out]; omega)
            have e92 : (mask 92 K).take i = mask 92 K := List.take_of_length_le (by rw [mask_len, HKL.out]; omega)
            rw [e54] at HOI
            rw [e92] at HOO
            obtain rfl : i = 64 := by omega
            have hgwr := HGR.out.trans HGR'.out
            have HGW := Lib.hid hgwr
            clear e54 e92 hlt hi hgwr
            go_wp2_with (at_builtin; refine wpList_append_bytes _ rfl _ _ rfl W0.heap.size _ _ _ rfl HOI.out _ l rfl (HR1.out.grown0 HGW.out) ?_ ?_ ?_)
            · have := HL.out; omega
            · exact HGR'.out.size
            · intro v5 w5 ho5 hg5 hat5
              have hgw5 : W0.grownBy w5 none := grown_new HGR'.out hg5 (fun b hb => (HOI.out.lt b hb).1)
              have hoo5 : w5.ownsRow W0.heap.size 5 1 u7 64 (bytesV (mask 92 K)) := HOO.out.kept hg5 (by
                cases h : u7.ownBlock with
                | none => exact .inl rfl
                | some b => exact .inr (fun e => HAP.out b e.symm h))
              have hr5 : Rd w5 v5 (bytesV (mask 54 K ++ l)) := by rw [bytesV_app]; exact Rd.of_own ho5
              have HOF := Lib.hid (refOf_any v5 (mask 54 K ++ l) w5 hr5 (by have := HL.out; have := HKL.out; rw [List.length_append, mask_len]; omega))
              have HOO5 := Lib.hid hoo5
              have HGW5 := Lib.hid hgw5
              obtain ⟨A5, c5, rfl⟩ := hr5.form
              clear ho5 hg5 hat5 hgw5 hoo5 hr5
              go_wp2_with fail
              refine HOF.out.mono ?_
              rintro e w6 ⟨u6, rfl, hr6, hg6⟩
              have HR6 := Lib.hid hr6
              have HOO6 := Lib.hid (own_kept0 HOO5.out hg6)
              have HGW6 := Lib.hid (HGW5.out.trans hg6)
              have HS32 := Lib.hid (sha_l32 (mask 54 K ++ l))
              obtain ⟨A6, c6, rfl⟩ := hr6.form
              generalize sha (mask 54 K ++ l) = inner at *
              clear hr6 hg6 HOF
              go_wp2_with (at_builtin; refine wpList_append_bytes _ rfl _ _ rfl W0.heap.size _ _ _ rfl HOO6.out _ inner rfl HR6.out ?_ ?_ ?_)
              · have := HS32.out; omega
              · exact HGW6.out.size
              · intro v7 w7 ho7 hg7 hat7
                have hgw7 : W0.grownBy w7 none := grown_new HGW6.out hg7 (fun b hb => (HOO6.out.lt b hb).1)
                have hr7 : Rd w7 v7 (bytesV (mask 92 K ++ inner)) := by rw [bytesV_app]; exact Rd.of_own ho7
                have HOF := Lib.hid (refOf_own v7 (mask 92 K ++ inner) w7 hr7 (by have := HS32.out; have := HKL.out; rw [List.length_append, mask_len]; omega))
                have HGW7 := Lib.hid (HGR.out.trans hgw7)
                obtain ⟨A7, c7, rfl⟩ := hr7.form
                clear ho7 hg7 hat7 hgw7 hr7
                go_wp2_with fail
                refine HOF.out.mono ?_
                rintro e w8 ⟨u8, rfl, ho8, hg8⟩
                rw [← HH.out] at ho8
                have HO8 := Lib.hid (own_base ho8 HGW7.out.size)
                have HGW8 := Lib.hid (HGW7.out.trans hg8)
                obtain ⟨A8, c8, rfl⟩ := (Rd.of_own ho8).form
                clear ho8 hg8 HOF
                go_wp2
                go_ret
                exact ⟨_, rfl, HO8.out, HGW8.out⟩
end Go.Proofs.YtmhcfbfdbminnaaDoor
