/-
  The law StreamParts, walked.
-/
import Derived.Test.YtmhpnddelebjdaaStrOps
import Derived.Test.YtmhpnddelebjdaaStrNoughtsLaw
import Derived.Test.YtmhpnddelebjdaaStrBlocksLaw
import Derived.Test.YtmhpnddelebjdaaHeld
namespace Go.Proofs.Ytmhpnddelebjdaa
open Go.RowKit

section
variable {o : Oper} {a : Act} {w : World}
theorem ex_build0B (h : o.op = .buildSlice 33 0 #[]) : (execOp a.eval o).run Try.prog w = .ok (.value (.slice (some ⟨w.heap.size, 0, none⟩) 0 0)) (w.alloc (.cells #[] 5)) := by
  simp only [execOp, h, List.map_toArray, List.map_nil]
  go_simp
  try rfl
theorem ex_append {x y : Operand} {base : Nat} {v u : Value} {n : Nat} {xs : List Value} {l : List UInt8} (h : o.op = .call { callee := .builtin .append, args := #[x, y], argTypes := #[33, 33] }) (hx : a.eval x = v) (hy : a.eval y = u)
    (hown : w.ownsRow base 5 1 v n xs) (hr : Rd w u (bytesV l)) (hlen : n + l.length ≤ 1000000000000) (hbase : base ≤ w.heap.size) :
    ∃ v' w', (execOp a.eval o).run Try.prog w = .ok (.value v') w' ∧ w'.ownsRow base 5 1 v' (n + l.length) (xs ++ bytesV l) ∧ w.grownBy w' v.ownBlock := by
  obtain ⟨i, hi, hz, hs1, hb⟩ := infoByte
  obtain ⟨v', w', hrun, h2, h3, h4⟩ := run_append_rd (P := Try.prog) w base 33 o.type 5 i (.int .u8 0) 1 Try.underlying33 hi hz hs1 hb rfl v n xs hown u (bytesV l) hr (bytesV_one _) (by rw [bytesV_len]; omega) (by rw [bytesV_len]; omega) hbase
  rw [bytesV_len] at h2
  refine ⟨v', w', ?_, h2, h3⟩
  unfold execOp
  simp only [h, resolve, invoke, builtin, Sem.run_bind, Sem.run_pure, Result.andThen_ok, List.map_toArray, List.map_cons, List.map_nil, hx, hy, hrun]
theorem held_append {ops : Array Oper} {Q : Exit → Act → World → Prop} {S : World → Prop} {fuel : Nat} {listed : Array Bool} (i : Nat) (hi : ops[i]? = some o) (hgd : o.guard = none) (hr : Region.ready .any ops listed = [i]) {x y : Operand} {base : Nat} {v u : Value} {n : Nat} {xs : List Value} {l : List UInt8} (h : o.op = .call { callee := .builtin .append, args := #[x, y], argTypes := #[33, 33] }) (hx : a.eval x = v) (hy : a.eval y = u)
    (hown : w.ownsRow base 5 1 v n xs) (hrd : Rd w u (bytesV l)) (hlen : n + l.length ≤ 1000000000000) (hbase : base ≤ w.heap.size)
    (hk : ∀ v' w', w'.ownsRow base 5 1 v' (n + l.length) (xs ++ bytesV l) → w.grownBy w' v.ownBlock → S w' ∧ wpAnyH Try.prog .any ops Q S fuel (listed.setIfInBounds i true) (a.put o.dst v') w') : wpAnyH Try.prog .any ops Q S (fuel + 1) listed a w := by
  obtain ⟨v', w', hrun, h1, h2⟩ := ex_append h hx hy hown hrd hlen hbase
  obtain ⟨h3, h4⟩ := hk v' w' h1 h2
  exact held_val i hi hgd hr hrun h3 h4
theorem ex_lenS {x : Operand} {A : Option Addr} {m c : Nat} (h : o.op = .call { callee := .builtin .len, args := #[x], argTypes := #[33] }) (hx : Is (.slice A m c) (a.eval x) w) : (execOp a.eval o).run Try.prog w = .ok (.value (.int .i64 (m : Int))) w := by
  have hx' : a.eval x = .slice A m c := hx
  simp only [execOp, h, resolve, invoke, builtin, List.map_toArray, List.map_cons, List.map_nil, hx']
  simp [go_sem]
theorem ex_quoc {x : Operand} {k : Nat} (r d : Nat) {e : Int} (he : e = (d : Int)) (hd : d ≠ 0) (h : o.op = .binOp .quo 3 x (.const (.int .i64 e)) 3) (hx : Is (.int .i64 (k : Int)) (a.eval x) w) (hr : k / d = r) (hb : k ≤ 1000000000000000) : (execOp a.eval o).run Try.prog w = .ok (.value (.int .i64 (r : Int))) w := by
  have hx' : a.eval x = .int .i64 (k : Int) := hx
  have hc : a.eval (.const (.int .i64 e)) = .int .i64 e := rfl
  have hle : r ≤ k := by rw [← hr]; exact Nat.div_le_self _ _
  have hm : Int.tdiv (k : Int) e = (r : Int) := by rw [he, ← Int.ofNat_tdiv, hr]
  have hw : IntKind.i64.wrap (r : Int) = (r : Int) := by rw [IntKind.wrap_i64]; omega
  have h0 : ¬ e = 0 := by rw [he]; omega
  simp only [execOp, h, hx', hc]
  simp [go_sem, h0, hm, hw]
end

set_option maxHeartbeats 8000000 in
theorem streamParts_walk (key : List UInt8) (hk : key.length = 32) (n : W32) (nonce : List UInt8) (hn : nonce.length = 12) (A3 : Option Addr) (m3 c3 : Nat) (a : List UInt8) (A4 : Option Addr) (m4 c4 : Nat) (b : List UInt8) (w : World) (hr3 : Rd w (.slice A3 m3 c3) (bytesV a)) (hr4 : Rd w (.slice A4 m4 c4) (bytesV b)) :
    Calls Try.prog 6 #[.agg (bytesV key).toArray, .int .u32 (n.toNat : Int), .agg (bytesV nonce).toArray, .slice A3 m3 c3, .slice A4 m4 c4] w (Awake w) := by
  have hal : a.length = m3 := by have := hr3.len.1; rwa [bytesV_len] at this
  have hbl : b.length = m4 := by have := hr4.len.1; rwa [bytesV_len] at this
  have HAL := Lib.hid hal
  have HBL := Lib.hid hbl
  have HK := Lib.hid hk
  have HN := Lib.hid hn
  have HKL := Lib.hid (show (bytesV key).length = 32 by rw [bytesV_len, hk])
  have HNL := Lib.hid (show (bytesV nonce).length = 12 by rw [bytesV_len, hn])
  generalize hG : w.heap.size = G
  have HG := Lib.hid hG
  obtain ⟨W0, hW0⟩ : ∃ W, (w.alloc (.cells (bytesV key).toArray 29)).alloc (.cells (bytesV nonce).toArray 30) = W := ⟨_, rfl⟩
  have R0 := Lib.hid (show Row W0 G 29 (bytesV key) by rw [← hW0]; exact (Row.newAt w _ (bytesV key) hG).alloc _)
  have R1 := Lib.hid (show Row W0 (G + 1) 30 (bytesV nonce) by rw [← hW0]; exact Row.newAt _ _ (bytesV nonce) (by simp [hG]))
  have HGR := Lib.hid (show w.grownBy W0 none by rw [← hW0]; exact grown_alloc (grown_alloc (grown_refl _ _) _) _)
  clear hk hn
  have HRA := Lib.hid (hr3.grown0 HGR.out)
  have HRB := Lib.hid (hr4.grown0 HGR.out)
  have hca := hr3.len.2
  have hcb := hr4.len.2
  unfold maxLen at hca hcb
  clear hr3 hr4 hal hbl
  by_cases hm : 300 < m3 ∨ 300 < m4 ∨ m3 % 64 ≠ 0
  · have hdec : (decide (300 < (m3 : Int)) = true) ∨ (decide (300 < (m3 : Int)) = false ∧ decide (300 < (m4 : Int)) = true) ∨ (decide (300 < (m3 : Int)) = false ∧ decide (300 < (m4 : Int)) = false ∧ ((m3 : Int) % 64 != 0) = true) := by
      by_cases h1 : 300 < m3
      · exact .inl (by simp; omega)
      · by_cases h2 : 300 < m4
        · exact .inr (.inl ⟨by simp; omega, by simp; omega⟩)
        · exact .inr (.inr ⟨by simp; omega, by simp; omega, by simp; omega⟩)
    clear hm
    go_enter Try.func6, Try.ntmps6
    rcases hdec with h1 | ⟨h1, h2⟩ | ⟨h1, h2, h3⟩
    all_goals
      go_wp2_with (go_at_call 12; refine (awake_any _).mono ?_; rintro e w5 ⟨rfl, hg5⟩)
      go_ret
      exact ⟨rfl, HGR.out.trans hg5⟩
  · have h1 : decide (300 < (m3 : Int)) = false := by simp; omega
    have h2 : decide (300 < (m4 : Int)) = false := by simp; omega
    have h3 : ((m3 : Int) % 64 != 0) = false := by simp; omega
    have hm3 : m3 ≤ 300 := by omega
    have hm4 : m4 ≤ 300 := by omega
    obtain ⟨q, hq⟩ : ∃ q, m3 / 64 = q := ⟨_, rfl⟩
    have hq64 : m3 = 64 * q := by omega
    have hdiv : (m3 : Int) / 64 = (q : Int) := by omega
    have hq5 : q ≤ 5 := by omega
    obtain ⟨y, hy⟩ : ∃ y, y = n + BitVec.ofNat 32 q := ⟨_, rfl⟩
    have hsum := num_add n q
    rw [← hy] at hsum
    obtain ⟨XA, hXA⟩ : ∃ X, xs key n nonce a = X := ⟨_, rfl⟩
    obtain ⟨XB, hXB⟩ : ∃ X, xs key y nonce b = X := ⟨_, rfl⟩
    have HXX := Lib.hid (show xs key n nonce (a ++ b) = XA ++ XB by rw [← hXA, ← hXB, hy]; exact xs_app key n nonce a b q (by rw [HAL.out]; exact hq64))
    have HXA := Lib.hid hXA
    have HXB := Lib.hid hXB
    have HAX := Lib.hid (show XA.length = m3 by rw [← hXA, xs_len, HAL.out])
    have HBX := Lib.hid (show XB.length = m4 by rw [← hXB, xs_len, HBL.out])
    have HSUM := Lib.hid (And.intro hsum hdiv)
    have HQ := Lib.hid hq
    have HY := Lib.hid (show n + BitVec.ofNat 32 q = y from hy.symm)
    clear hm hq hq64 hy hXA hXB hsum hdiv
    go_enter Try.func6, Try.ntmps6
    go_wp2
    clear h1 h2 h3
    refine wp_region_held (S := fun W => Row W G 29 (bytesV key) ∧ Row W (G + 1) 30 (bytesV nonce)) (by kernel_rfl) ?_
    generalize hA : Act.mk _ _ = F0
    have s1 : F0.eval (.tmp 1) = .int .u32 (n.toNat : Int) := by rw [← hA]; rfl
    have s3 : F0.eval (.tmp 3) = .slice A3 m3 c3 := by rw [← hA]; rfl
    have s4 : F0.eval (.tmp 4) = .slice A4 m4 c4 := by rw [← hA]; rfl
    have s5 : F0.eval (.tmp 5) = .pointer (some ⟨G, 0, none⟩) := by rw [← hA]; rfl
    have s7 : F0.eval (.tmp 7) = .pointer (some ⟨G + 1, 0, none⟩) := by rw [← hA]; rfl
    have hsz : F0.tmps.size = 64 := by rw [← hA]; rfl
    have hS0 := And.intro R0.out.drew R1.out.drew
    change wpAnyH _ _ _ _ _ _ _ _ W0.drew
    refine held_take 0 (.agg (bytesV key).toArray) rfl rfl (by kernel_rfl) (by kernel_rfl) (by kernel_rfl) (fun _ _ _ h => h) (fun w hS => ex_load_row rfl G 29 _ _ s5 hS.1 Try.underlying29 rfl (by rw [HKL.out]; kernel_rfl)) hS0 ?_
    obtain ⟨F1, hF1⟩ : ∃ A, F0.put (some 29) (.agg (bytesV key).toArray) = A := ⟨_, rfl⟩
    change wpAnyH _ _ _ _ _ _ _ (F0.put (some 29) (.agg (bytesV key).toArray)) _
    rw [hF1]
    replace s1 : F1.eval (.tmp 1) = .int .u32 (n.toNat : Int) := by rw [← hF1, eval_put_ne' (by decide)]; exact s1
    replace s3 : F1.eval (.tmp 3) = .slice A3 m3 c3 := by rw [← hF1, eval_put_ne' (by decide)]; exact s3
    replace s4 : F1.eval (.tmp 4) = .slice A4 m4 c4 := by rw [← hF1, eval_put_ne' (by decide)]; exact s4
    replace s5 : F1.eval (.tmp 5) = .pointer (some ⟨G, 0, none⟩) := by rw [← hF1, eval_put_ne' (by decide)]; exact s5
    replace s7 : F1.eval (.tmp 7) = .pointer (some ⟨G + 1, 0, none⟩) := by rw [← hF1, eval_put_ne' (by decide)]; exact s7
    have s29 : F1.eval (.tmp 29) = .agg (bytesV key).toArray := by rw [← hF1]; exact eval_put_eq' (by rw [hsz]; decide)
    replace hsz : F1.tmps.size = 64 := by rw [← hF1, size_put]; exact hsz
    refine held_take 1 (.int .u32 (n.toNat : Int)) rfl rfl (by kernel_rfl) (by kernel_rfl) (by kernel_rfl) (fun _ _ _ h => h) (fun w hS => (ex_move rfl).trans (by rw [s1])) hS0 ?_
    obtain ⟨F2, hF2⟩ : ∃ A, F1.put (some 30) (.int .u32 (n.toNat : Int)) = A := ⟨_, rfl⟩
    change wpAnyH _ _ _ _ _ _ _ (F1.put (some 30) (.int .u32 (n.toNat : Int))) _
    rw [hF2]
    replace s1 : F2.eval (.tmp 1) = .int .u32 (n.toNat : Int) := by rw [← hF2, eval_put_ne' (by decide)]; exact s1
    replace s3 : F2.eval (.tmp 3) = .slice A3 m3 c3 := by rw [← hF2, eval_put_ne' (by decide)]; exact s3
    replace s4 : F2.eval (.tmp 4) = .slice A4 m4 c4 := by rw [← hF2, eval_put_ne' (by decide)]; exact s4
    replace s5 : F2.eval (.tmp 5) = .pointer (some ⟨G, 0, none⟩) := by rw [← hF2, eval_put_ne' (by decide)]; exact s5
    replace s7 : F2.eval (.tmp 7) = .pointer (some ⟨G + 1, 0, none⟩) := by rw [← hF2, eval_put_ne' (by decide)]; exact s7
    replace s29 : F2.eval (.tmp 29) = .agg (bytesV key).toArray := by rw [← hF2, eval_put_ne' (by decide)]; exact s29
    have s30 : F2.eval (.tmp 30) = .int .u32 (n.toNat : Int) := by rw [← hF2]; exact eval_put_eq' (by rw [hsz]; decide)
    replace hsz : F2.tmps.size = 64 := by rw [← hF2, size_put]; exact hsz
    refine held_take 2 (.agg (bytesV nonce).toArray) rfl rfl (by kernel_rfl) (by kernel_rfl) (by kernel_rfl) (fun _ _ _ h => h) (fun w hS => ex_load_row rfl (G + 1) 30 _ _ s7 hS.2 Try.underlying30 rfl (by rw [HNL.out]; kernel_rfl)) hS0 ?_
    obtain ⟨F3, hF3⟩ : ∃ A, F2.put (some 31) (.agg (bytesV nonce).toArray) = A := ⟨_, rfl⟩
    change wpAnyH _ _ _ _ _ _ _ (F2.put (some 31) (.agg (bytesV nonce).toArray)) _
    rw [hF3]
    replace s1 : F3.eval (.tmp 1) = .int .u32 (n.toNat : Int) := by rw [← hF3, eval_put_ne' (by decide)]; exact s1
    replace s3 : F3.eval (.tmp 3) = .slice A3 m3 c3 := by rw [← hF3, eval_put_ne' (by decide)]; exact s3
    replace s4 : F3.eval (.tmp 4) = .slice A4 m4 c4 := by rw [← hF3, eval_put_ne' (by decide)]; exact s4
    replace s5 : F3.eval (.tmp 5) = .pointer (some ⟨G, 0, none⟩) := by rw [← hF3, eval_put_ne' (by decide)]; exact s5
    replace s7 : F3.eval (.tmp 7) = .pointer (some ⟨G + 1, 0, none⟩) := by rw [← hF3, eval_put_ne' (by decide)]; exact s7
    replace s29 : F3.eval (.tmp 29) = .agg (bytesV key).toArray := by rw [← hF3, eval_put_ne' (by decide)]; exact s29
    replace s30 : F3.eval (.tmp 30) = .int .u32 (n.toNat : Int) := by rw [← hF3, eval_put_ne' (by decide)]; exact s30
    have s31 : F3.eval (.tmp 31) = .agg (bytesV nonce).toArray := by rw [← hF3]; exact eval_put_eq' (by rw [hsz]; decide)
    replace hsz : F3.tmps.size = 64 := by rw [← hF3, size_put]; exact hsz
    refine held_take 4 (.slice A3 m3 c3) rfl rfl (by kernel_rfl) (by kernel_rfl) (by kernel_rfl) (fun _ _ _ h => h) (fun w hS => (ex_move rfl).trans (by rw [s3])) hS0 ?_
    obtain ⟨F4, hF4⟩ : ∃ A, F3.put (some 33) (.slice A3 m3 c3) = A := ⟨_, rfl⟩
    change wpAnyH _ _ _ _ _ _ _ (F3.put (some 33) (.slice A3 m3 c3)) _
    rw [hF4]
    replace s1 : F4.eval (.tmp 1) = .int .u32 (n.toNat : Int) := by rw [← hF4, eval_put_ne' (by decide)]; exact s1
    replace s3 : F4.eval (.tmp 3) = .slice A3 m3 c3 := by rw [← hF4, eval_put_ne' (by decide)]; exact s3
    replace s4 : F4.eval (.tmp 4) = .slice A4 m4 c4 := by rw [← hF4, eval_put_ne' (by decide)]; exact s4
    replace s5 : F4.eval (.tmp 5) = .pointer (some ⟨G, 0, none⟩) := by rw [← hF4, eval_put_ne' (by decide)]; exact s5
    replace s7 : F4.eval (.tmp 7) = .pointer (some ⟨G + 1, 0, none⟩) := by rw [← hF4, eval_put_ne' (by decide)]; exact s7
    replace s29 : F4.eval (.tmp 29) = .agg (bytesV key).toArray := by rw [← hF4, eval_put_ne' (by decide)]; exact s29
    replace s30 : F4.eval (.tmp 30) = .int .u32 (n.toNat : Int) := by rw [← hF4, eval_put_ne' (by decide)]; exact s30
    replace s31 : F4.eval (.tmp 31) = .agg (bytesV nonce).toArray := by rw [← hF4, eval_put_ne' (by decide)]; exact s31
    have s33 : F4.eval (.tmp 33) = .slice A3 m3 c3 := by rw [← hF4]; exact eval_put_eq' (by rw [hsz]; decide)
    replace hsz : F4.tmps.size = 64 := by rw [← hF4, size_put]; exact hsz
    refine held_take 6 (.slice A4 m4 c4) rfl rfl (by kernel_rfl) (by kernel_rfl) (by kernel_rfl) (fun _ _ _ h => h) (fun w hS => (ex_move rfl).trans (by rw [s4])) hS0 ?_
    obtain ⟨F5, hF5⟩ : ∃ A, F4.put (some 35) (.slice A4 m4 c4) = A := ⟨_, rfl⟩
    change wpAnyH _ _ _ _ _ _ _ (F4.put (some 35) (.slice A4 m4 c4)) _
    rw [hF5]
    replace s1 : F5.eval (.tmp 1) = .int .u32 (n.toNat : Int) := by rw [← hF5, eval_put_ne' (by decide)]; exact s1
    replace s3 : F5.eval (.tmp 3) = .slice A3 m3 c3 := by rw [← hF5, eval_put_ne' (by decide)]; exact s3
    replace s4 : F5.eval (.tmp 4) = .slice A4 m4 c4 := by rw [← hF5, eval_put_ne' (by decide)]; exact s4
    replace s5 : F5.eval (.tmp 5) = .pointer (some ⟨G, 0, none⟩) := by rw [← hF5, eval_put_ne' (by decide)]; exact s5
    replace s7 : F5.eval (.tmp 7) = .pointer (some ⟨G + 1, 0, none⟩) := by rw [← hF5, eval_put_ne' (by decide)]; exact s7
    replace s29 : F5.eval (.tmp 29) = .agg (bytesV key).toArray := by rw [← hF5, eval_put_ne' (by decide)]; exact s29
    replace s30 : F5.eval (.tmp 30) = .int .u32 (n.toNat : Int) := by rw [← hF5, eval_put_ne' (by decide)]; exact s30
    replace s31 : F5.eval (.tmp 31) = .agg (bytesV nonce).toArray := by rw [← hF5, eval_put_ne' (by decide)]; exact s31
    replace s33 : F5.eval (.tmp 33) = .slice A3 m3 c3 := by rw [← hF5, eval_put_ne' (by decide)]; exact s33
    have s35 : F5.eval (.tmp 35) = .slice A4 m4 c4 := by rw [← hF5]; exact eval_put_eq' (by rw [hsz]; decide)
    replace hsz : F5.tmps.size = 64 := by rw [← hF5, size_put]; exact hsz
    have hg3 := grown_alloc (grown_refl W0.drew none) (.cells #[] 5)
    refine held_val 3 rfl rfl (by kernel_rfl) (ex_build0B rfl) ⟨hS0.1.grown0 hg3, hS0.2.grown0 hg3⟩ ?_
    obtain ⟨g3, hg3e⟩ : ∃ g, W0.drew.heap.size = g := ⟨_, rfl⟩
    rw [hg3e]
    have ho3 := own_empty W0.drew W0.drew.heap.size (Nat.le_refl _)
    rw [hg3e] at ho3
    obtain ⟨F6, hF6⟩ : ∃ A, F5.put (some 32) (.slice (some ⟨g3, 0, none⟩) 0 0) = A := ⟨_, rfl⟩
    change wpAnyH _ _ _ _ _ _ _ (F5.put (some 32) (.slice (some ⟨g3, 0, none⟩) 0 0)) _
    rw [hF6]
    replace s1 : F6.eval (.tmp 1) = .int .u32 (n.toNat : Int) := by rw [← hF6, eval_put_ne' (by decide)]; exact s1
    replace s3 : F6.eval (.tmp 3) = .slice A3 m3 c3 := by rw [← hF6, eval_put_ne' (by decide)]; exact s3
    replace s4 : F6.eval (.tmp 4) = .slice A4 m4 c4 := by rw [← hF6, eval_put_ne' (by decide)]; exact s4
    replace s5 : F6.eval (.tmp 5) = .pointer (some ⟨G, 0, none⟩) := by rw [← hF6, eval_put_ne' (by decide)]; exact s5
    replace s7 : F6.eval (.tmp 7) = .pointer (some ⟨G + 1, 0, none⟩) := by rw [← hF6, eval_put_ne' (by decide)]; exact s7
    replace s29 : F6.eval (.tmp 29) = .agg (bytesV key).toArray := by rw [← hF6, eval_put_ne' (by decide)]; exact s29
    replace s30 : F6.eval (.tmp 30) = .int .u32 (n.toNat : Int) := by rw [← hF6, eval_put_ne' (by decide)]; exact s30
    replace s31 : F6.eval (.tmp 31) = .agg (bytesV nonce).toArray := by rw [← hF6, eval_put_ne' (by decide)]; exact s31
    replace s33 : F6.eval (.tmp 33) = .slice A3 m3 c3 := by rw [← hF6, eval_put_ne' (by decide)]; exact s33
    replace s35 : F6.eval (.tmp 35) = .slice A4 m4 c4 := by rw [← hF6, eval_put_ne' (by decide)]; exact s35
    have s32 : F6.eval (.tmp 32) = .slice (some ⟨g3, 0, none⟩) 0 0 := by rw [← hF6]; exact eval_put_eq' (by rw [hsz]; decide)
    replace hsz : F6.tmps.size = 64 := by rw [← hF6, size_put]; exact hsz
    refine held_append 5 rfl rfl (by kernel_rfl) rfl s32 s33 ho3 (HRA.out.drew.grown0 hg3) (by rw [HAL.out]; omega) (by rw [← hg3e]; simp) ?_
    intro v5 w5 ho5 hg5
    have hgw5 : W0.drew.grownBy w5 none := grown_new hg3 hg5 (fun x e => by cases e; rw [← hg3e]; exact Nat.le_refl _)
    refine ⟨⟨hS0.1.grown0 hgw5, hS0.2.grown0 hgw5⟩, ?_⟩
    obtain ⟨F7, hF7⟩ : ∃ A, F6.put (some 34) (v5) = A := ⟨_, rfl⟩
    change wpAnyH _ _ _ _ _ _ _ (F6.put (some 34) (v5)) _
    rw [hF7]
    replace s1 : F7.eval (.tmp 1) = .int .u32 (n.toNat : Int) := by rw [← hF7, eval_put_ne' (by decide)]; exact s1
    replace s3 : F7.eval (.tmp 3) = .slice A3 m3 c3 := by rw [← hF7, eval_put_ne' (by decide)]; exact s3
    replace s4 : F7.eval (.tmp 4) = .slice A4 m4 c4 := by rw [← hF7, eval_put_ne' (by decide)]; exact s4
    replace s5 : F7.eval (.tmp 5) = .pointer (some ⟨G, 0, none⟩) := by rw [← hF7, eval_put_ne' (by decide)]; exact s5
    replace s7 : F7.eval (.tmp 7) = .pointer (some ⟨G + 1, 0, none⟩) := by rw [← hF7, eval_put_ne' (by decide)]; exact s7
    replace s29 : F7.eval (.tmp 29) = .agg (bytesV key).toArray := by rw [← hF7, eval_put_ne' (by decide)]; exact s29
    replace s30 : F7.eval (.tmp 30) = .int .u32 (n.toNat : Int) := by rw [← hF7, eval_put_ne' (by decide)]; exact s30
    replace s31 : F7.eval (.tmp 31) = .agg (bytesV nonce).toArray := by rw [← hF7, eval_put_ne' (by decide)]; exact s31
    replace s33 : F7.eval (.tmp 33) = .slice A3 m3 c3 := by rw [← hF7, eval_put_ne' (by decide)]; exact s33
    replace s35 : F7.eval (.tmp 35) = .slice A4 m4 c4 := by rw [← hF7, eval_put_ne' (by decide)]; exact s35
    replace s32 : F7.eval (.tmp 32) = .slice (some ⟨g3, 0, none⟩) 0 0 := by rw [← hF7, eval_put_ne' (by decide)]; exact s32
    have s34 : F7.eval (.tmp 34) = v5 := by rw [← hF7]; exact eval_put_eq' (by rw [hsz]; decide)
    replace hsz : F7.tmps.size = 64 := by rw [← hF7, size_put]; exact hsz
    refine held_append 7 rfl rfl (by kernel_rfl) rfl s34 s35 ho5 (HRB.out.drew.grown0 hgw5) (by rw [HAL.out, HBL.out]; omega) (by rw [← hg3e]; exact hgw5.size) ?_
    intro v7 w7 ho7 hg7
    have hgw7 : W0.drew.grownBy w7 none := grown_new hgw5 hg7 (fun x e => by rw [hg3e]; exact (ho5.lt x e).1)
    refine ⟨⟨hS0.1.grown0 hgw7, hS0.2.grown0 hgw7⟩, ?_⟩
    obtain ⟨F8, hF8⟩ : ∃ A, F7.put (some 36) (v7) = A := ⟨_, rfl⟩
    change wpAnyH _ _ _ _ _ _ _ (F7.put (some 36) (v7)) _
    rw [hF8]
    replace s1 : F8.eval (.tmp 1) = .int .u32 (n.toNat : Int) := by rw [← hF8, eval_put_ne' (by decide)]; exact s1
    replace s3 : F8.eval (.tmp 3) = .slice A3 m3 c3 := by rw [← hF8, eval_put_ne' (by decide)]; exact s3
    replace s4 : F8.eval (.tmp 4) = .slice A4 m4 c4 := by rw [← hF8, eval_put_ne' (by decide)]; exact s4
    replace s5 : F8.eval (.tmp 5) = .pointer (some ⟨G, 0, none⟩) := by rw [← hF8, eval_put_ne' (by decide)]; exact s5
    replace s7 : F8.eval (.tmp 7) = .pointer (some ⟨G + 1, 0, none⟩) := by rw [← hF8, eval_put_ne' (by decide)]; exact s7
    replace s29 : F8.eval (.tmp 29) = .agg (bytesV key).toArray := by rw [← hF8, eval_put_ne' (by decide)]; exact s29
    replace s30 : F8.eval (.tmp 30) = .int .u32 (n.toNat : Int) := by rw [← hF8, eval_put_ne' (by decide)]; exact s30
    replace s31 : F8.eval (.tmp 31) = .agg (bytesV nonce).toArray := by rw [← hF8, eval_put_ne' (by decide)]; exact s31
    replace s33 : F8.eval (.tmp 33) = .slice A3 m3 c3 := by rw [← hF8, eval_put_ne' (by decide)]; exact s33
    replace s35 : F8.eval (.tmp 35) = .slice A4 m4 c4 := by rw [← hF8, eval_put_ne' (by decide)]; exact s35
    replace s32 : F8.eval (.tmp 32) = .slice (some ⟨g3, 0, none⟩) 0 0 := by rw [← hF8, eval_put_ne' (by decide)]; exact s32
    replace s34 : F8.eval (.tmp 34) = v5 := by rw [← hF8, eval_put_ne' (by decide)]; exact s34
    have s36 : F8.eval (.tmp 36) = v7 := by rw [← hF8]; exact eval_put_eq' (by rw [hsz]; decide)
    replace hsz : F8.tmps.size = 64 := by rw [← hF8, size_put]; exact hsz
    have hrd : Rd w7 v7 (bytesV (a ++ b)) := by
      have := Rd.of_own ho7
      rw [List.nil_append, ← bytesV_app] at this
      exact this
    refine held_call 8 rfl rfl (by kernel_rfl) (ex_call4 Try.func16 (by kernel_rfl) (by kernel_rfl) rfl) ?_
    rw [s29, s30, s31, s36]
    refine (xor_at key HK.out n nonce HN.out v7 (a ++ b) w7 hrd (by rw [List.length_append, HAL.out, HBL.out]; omega)).mono ?_
    rintro e w8 ⟨v8, rfl, hg8, hx8⟩
    rw [HXX.out] at hx8
    have hgw8 := hgw7.trans hg8
    refine ⟨v8, rfl, ⟨hS0.1.grown0 hgw8, hS0.2.grown0 hgw8⟩, ?_⟩
    obtain ⟨F9, hF9⟩ : ∃ A, F8.put (some 37) (v8) = A := ⟨_, rfl⟩
    change wpAnyH _ _ _ _ _ _ _ (F8.put (some 37) (v8)) _
    rw [hF9]
    replace s1 : F9.eval (.tmp 1) = .int .u32 (n.toNat : Int) := by rw [← hF9, eval_put_ne' (by decide)]; exact s1
    replace s3 : F9.eval (.tmp 3) = .slice A3 m3 c3 := by rw [← hF9, eval_put_ne' (by decide)]; exact s3
    replace s4 : F9.eval (.tmp 4) = .slice A4 m4 c4 := by rw [← hF9, eval_put_ne' (by decide)]; exact s4
    replace s5 : F9.eval (.tmp 5) = .pointer (some ⟨G, 0, none⟩) := by rw [← hF9, eval_put_ne' (by decide)]; exact s5
    replace s7 : F9.eval (.tmp 7) = .pointer (some ⟨G + 1, 0, none⟩) := by rw [← hF9, eval_put_ne' (by decide)]; exact s7
    replace s29 : F9.eval (.tmp 29) = .agg (bytesV key).toArray := by rw [← hF9, eval_put_ne' (by decide)]; exact s29
    replace s30 : F9.eval (.tmp 30) = .int .u32 (n.toNat : Int) := by rw [← hF9, eval_put_ne' (by decide)]; exact s30
    replace s31 : F9.eval (.tmp 31) = .agg (bytesV nonce).toArray := by rw [← hF9, eval_put_ne' (by decide)]; exact s31
    replace s33 : F9.eval (.tmp 33) = .slice A3 m3 c3 := by rw [← hF9, eval_put_ne' (by decide)]; exact s33
    replace s35 : F9.eval (.tmp 35) = .slice A4 m4 c4 := by rw [← hF9, eval_put_ne' (by decide)]; exact s35
    replace s32 : F9.eval (.tmp 32) = .slice (some ⟨g3, 0, none⟩) 0 0 := by rw [← hF9, eval_put_ne' (by decide)]; exact s32
    replace s34 : F9.eval (.tmp 34) = v5 := by rw [← hF9, eval_put_ne' (by decide)]; exact s34
    replace s36 : F9.eval (.tmp 36) = v7 := by rw [← hF9, eval_put_ne' (by decide)]; exact s36
    have s37 : F9.eval (.tmp 37) = v8 := by rw [← hF9]; exact eval_put_eq' (by rw [hsz]; decide)
    replace hsz : F9.tmps.size = 64 := by rw [← hF9, size_put]; exact hsz
    refine held_val 9 rfl rfl (by kernel_rfl) ((ex_assign rfl).trans (by rw [s37])) ⟨hS0.1.grown0 hgw8, hS0.2.grown0 hgw8⟩ ?_
    obtain ⟨F10, hF10⟩ : ∃ A, F9.put (some 11) (v8) = A := ⟨_, rfl⟩
    change wpAnyH _ _ _ _ _ _ _ (F9.put (some 11) (v8)) _
    rw [hF10]
    replace s1 : F10.eval (.tmp 1) = .int .u32 (n.toNat : Int) := by rw [← hF10, eval_put_ne' (by decide)]; exact s1
    replace s3 : F10.eval (.tmp 3) = .slice A3 m3 c3 := by rw [← hF10, eval_put_ne' (by decide)]; exact s3
    replace s4 : F10.eval (.tmp 4) = .slice A4 m4 c4 := by rw [← hF10, eval_put_ne' (by decide)]; exact s4
    replace s5 : F10.eval (.tmp 5) = .pointer (some ⟨G, 0, none⟩) := by rw [← hF10, eval_put_ne' (by decide)]; exact s5
    replace s7 : F10.eval (.tmp 7) = .pointer (some ⟨G + 1, 0, none⟩) := by rw [← hF10, eval_put_ne' (by decide)]; exact s7
    replace s29 : F10.eval (.tmp 29) = .agg (bytesV key).toArray := by rw [← hF10, eval_put_ne' (by decide)]; exact s29
    replace s30 : F10.eval (.tmp 30) = .int .u32 (n.toNat : Int) := by rw [← hF10, eval_put_ne' (by decide)]; exact s30
    replace s31 : F10.eval (.tmp 31) = .agg (bytesV nonce).toArray := by rw [← hF10, eval_put_ne' (by decide)]; exact s31
    replace s33 : F10.eval (.tmp 33) = .slice A3 m3 c3 := by rw [← hF10, eval_put_ne' (by decide)]; exact s33
    replace s35 : F10.eval (.tmp 35) = .slice A4 m4 c4 := by rw [← hF10, eval_put_ne' (by decide)]; exact s35
    replace s32 : F10.eval (.tmp 32) = .slice (some ⟨g3, 0, none⟩) 0 0 := by rw [← hF10, eval_put_ne' (by decide)]; exact s32
    replace s34 : F10.eval (.tmp 34) = v5 := by rw [← hF10, eval_put_ne' (by decide)]; exact s34
    replace s36 : F10.eval (.tmp 36) = v7 := by rw [← hF10, eval_put_ne' (by decide)]; exact s36
    replace s37 : F10.eval (.tmp 37) = v8 := by rw [← hF10, eval_put_ne' (by decide)]; exact s37
    have s11 : F10.eval (.tmp 11) = v8 := by rw [← hF10]; exact eval_put_eq' (by rw [hsz]; decide)
    replace hsz : F10.tmps.size = 64 := by rw [← hF10, size_put]; exact hsz
    refine wpAnyH_done (by kernel_rfl) ?_ _
    obtain ⟨g8, rfl, hrow8⟩ := hx8
    have hlen8 : (XA ++ XB).length = m3 + m4 := by rw [List.length_append, HAX.out, HBX.out]
    rw [← hF10, ← hF9, ← hF8, ← hF7, ← hF6, ← hF5, ← hF4, ← hF3, ← hF2, ← hF1, ← hA, hlen8]
    have HR8 := Lib.hid hrow8
    have HGW := Lib.hid ((grown_drew (grown_refl W0 none)).trans hgw8)
    have R0' := Lib.hid (R0.out.grown0 HGW.out)
    have R1' := Lib.hid (R1.out.grown0 HGW.out)
    have HA' := Lib.hid (HRA.out.grown0 HGW.out)
    have HB' := Lib.hid (HRB.out.grown0 HGW.out)
    have HG8 := Lib.hid (HGR.out.trans HGW.out)
    have HABL := Lib.hid (show a.length ≤ 100000000000 by rw [HAL.out]; omega)
    have HBBL := Lib.hid (show b.length ≤ 100000000000 by rw [HBL.out]; omega)
    clear hrow8 hgw8 hgw7 hgw5 hg8 hg7 hg5 hg3 hrd ho7 ho5 ho3 hS0 hsz s1 s3 s4 s5 s7 s29 s30 s31 s32 s33 s34 s35 s36 s37 hlen8 s11 hF10 hF9 hF8 hF7 hF6 hF5 hF4 hF3 hF2 hF1 hA R0 R1 HRA HRB HGR HGW hG hW0
    simp only [Act.put, List.setIfInBounds_toArray, List.set_cons_succ, List.set_cons_zero]
    go_wp2
    refine wp_region_walk3 17 [] dis_nil (by kernel_rfl) (by kernel_rfl) (by kernel_rfl) ?_
    simp only [List.take_succ_cons, List.take_zero, List.drop_succ_cons, List.drop_zero]
    refine Walk.val (G := Is (.agg (bytesV key).toArray)) (stays_is _ _) rfl rfl (fun a1 w hm hd => ⟨wanted_plain rfl, _, ex_load_row rfl G 29 _ _ (by rw [hm.outer 5 (by kernel_rfl)]; rfl) (R0'.out.grown0 hm.grow.none2) Try.underlying29 rfl (by rw [HKL.out]; kernel_rfl), rfl⟩) ?_
    refine Walk.val (G := Is (.int .u32 (n.toNat : Int))) (stays_is _ _) rfl rfl (fun a1 w hm hd => ⟨wanted_plain rfl, _, ex_move rfl, by rw [hm.outer 1 (by kernel_rfl)]; rfl⟩) ?_
    refine Walk.val (G := Is (.agg (bytesV nonce).toArray)) (stays_is _ _) rfl rfl (fun a1 w hm hd => ⟨wanted_plain rfl, _, ex_load_row rfl (G + 1) 30 _ _ (by rw [hm.outer 7 (by kernel_rfl)]; rfl) (R1'.out.grown0 hm.grow.none2) Try.underlying30 rfl (by rw [HNL.out]; kernel_rfl), rfl⟩) ?_
    refine Walk.val (G := IsB a) (fun _ _ _ _ _ h hg => Rd.grown0 h hg) rfl rfl (fun a1 w hm hd => ⟨wanted_plain rfl, _, ex_move rfl, (by rw [hm.outer 3 (by kernel_rfl)]; exact HA'.out.grown0 hm.grow.none2)⟩) ?_
    refine Walk.call (G := IsX XA) (fun _ _ _ _ _ h hg => lasts_x _ _ _ _ h hg) rfl 16 rfl (fun a1 w hm _ hd => ⟨wanted_plain rfl, _, ex_call4 Try.func16 (by kernel_rfl) (by kernel_rfl) rfl, by
      rw [show a1.eval (.tmp 38) = _ from hd.at_ 0 rfl rfl rfl rfl, show a1.eval (.tmp 39) = _ from hd.at_ 1 rfl rfl rfl rfl, show a1.eval (.tmp 40) = _ from hd.at_ 2 rfl rfl rfl rfl]
      have hx : IsB a (a1.eval (.tmp 41)) w := hd.at_ 3 rfl rfl rfl rfl
      rw [← HXA.out]
      exact xor_at key HK.out n nonce HN.out _ a w hx HABL.out⟩) ?_
    refine Walk.val (G := Is (.agg (bytesV key).toArray)) (stays_is _ _) rfl rfl (fun a1 w hm hd => ⟨wanted_plain rfl, _, ex_load_row rfl G 29 _ _ (by rw [hm.outer 5 (by kernel_rfl)]; rfl) (R0'.out.grown0 hm.grow.none2) Try.underlying29 rfl (by rw [HKL.out]; kernel_rfl), rfl⟩) ?_
    refine Walk.val (G := Is (.int .u32 (n.toNat : Int))) (stays_is _ _) rfl rfl (fun a1 w hm hd => ⟨wanted_plain rfl, _, ex_move rfl, by rw [hm.outer 1 (by kernel_rfl)]; rfl⟩) ?_
    refine Walk.val (G := Is (.slice A3 m3 c3)) (stays_is _ _) rfl rfl (fun a1 w hm hd => ⟨wanted_plain rfl, _, ex_move rfl, by rw [hm.outer 3 (by kernel_rfl)]; rfl⟩) ?_
    refine Walk.val (G := Is (.int .i64 (m3 : Int))) (stays_is _ _) rfl rfl (fun a1 w hm hd => ⟨wanted_plain rfl, _, ex_lenS rfl (hd.at_ 7 rfl rfl rfl rfl), rfl⟩) ?_
    refine Walk.val (G := Is (.int .i64 (q : Int))) (stays_is _ _) rfl rfl (fun a1 w hm hd => ⟨wanted_plain rfl, _, ex_quoc q 64 rfl (by decide) rfl (hd.at_ 8 rfl rfl rfl rfl) HQ.out (by omega), rfl⟩) ?_
    refine Walk.val (G := Is (.int .u32 (q : Int))) (stays_is _ _) rfl rfl (fun a1 w hm hd => ⟨wanted_plain rfl, _, ex_conv3 rfl (hd.at_ 9 rfl rfl rfl rfl) (by omega), rfl⟩) ?_
    refine Walk.val (G := Is (.int .u32 (y.toNat : Int))) (stays_is _ _) rfl rfl (fun a1 w hm hd => ⟨wanted_plain rfl, _, ex_add32 y rfl (hd.at_ 6 rfl rfl rfl rfl) (hd.at_ 10 rfl rfl rfl rfl) HY.out, rfl⟩) ?_
    refine Walk.val (G := Is (.agg (bytesV nonce).toArray)) (stays_is _ _) rfl rfl (fun a1 w hm hd => ⟨wanted_plain rfl, _, ex_load_row rfl (G + 1) 30 _ _ (by rw [hm.outer 7 (by kernel_rfl)]; rfl) (R1'.out.grown0 hm.grow.none2) Try.underlying30 rfl (by rw [HNL.out]; kernel_rfl), rfl⟩) ?_
    refine Walk.val (G := IsB b) (fun _ _ _ _ _ h hg => Rd.grown0 h hg) rfl rfl (fun a1 w hm hd => ⟨wanted_plain rfl, _, ex_move rfl, (by rw [hm.outer 4 (by kernel_rfl)]; exact HB'.out.grown0 hm.grow.none2)⟩) ?_
    refine Walk.call (G := IsX XB) (fun _ _ _ _ _ h hg => lasts_x _ _ _ _ h hg) rfl 16 rfl (fun a1 w hm _ hd => ⟨wanted_plain rfl, _, ex_call4 Try.func16 (by kernel_rfl) (by kernel_rfl) rfl, by
      rw [show a1.eval (.tmp 43) = _ from hd.at_ 5 rfl rfl rfl rfl, show a1.eval (.tmp 49) = _ from hd.at_ 11 rfl rfl rfl rfl, show a1.eval (.tmp 50) = _ from hd.at_ 12 rfl rfl rfl rfl]
      have hx : IsB b (a1.eval (.tmp 51)) w := hd.at_ 13 rfl rfl rfl rfl
      rw [← HXB.out]
      exact xor_at key HK.out y nonce HN.out _ b w hx HBBL.out⟩) ?_
    refine Walk.val (G := IsX XA) (fun _ _ _ _ _ h hg => lasts_x _ _ _ _ h hg) rfl rfl (fun a1 w hm hd => ⟨wanted_plain rfl, _, ex_assign rfl, hd.at_ 4 rfl rfl rfl rfl⟩) ?_
    refine Walk.val (G := IsX XB) (fun _ _ _ _ _ h hg => lasts_x _ _ _ _ h hg) rfl rfl (fun a1 w hm hd => ⟨wanted_plain rfl, _, ex_assign rfl, hd.at_ 14 rfl rfl rfl rfl⟩) ?_
    intro a9 w7 hm7 hall
    have f12 : IsX XA (a9.eval (.tmp 12)) w7 := hall 15 _ _ rfl rfl
    have f13 : IsX XB (a9.eval (.tmp 13)) w7 := hall 16 _ _ rfl rfl
    obtain ⟨gx, hvx, hrx⟩ := f12
    obtain ⟨gy, hvy, hry⟩ := f13
    rw [HAX.out] at hvx
    rw [HBX.out] at hvy
    have hg7 : w8.grownBy w7 none := GrownX.none2 hm7.grow
    have hfr := hm7.frame
    simp only [List.take_succ_cons, List.take_zero, List.filterMap_cons, List.filterMap_nil, List.foldl_cons, List.foldl_nil] at hfr
    rw [hvx, hvy] at hfr
    have RX := Lib.hid hrx
    have RY := Lib.hid hry
    have RZ := Lib.hid (HR8.out.grown0 hg7)
    have HG7 := Lib.hid (HG8.out.trans hg7)
    rw [hfr]
    clear hvx hvy hrx hry hg7 hfr R0' R1' HA' HB' HG8 HR8
    generalize a9.eval (.tmp 38) = e38
    generalize a9.eval (.tmp 39) = e39
    generalize a9.eval (.tmp 40) = e40
    generalize a9.eval (.tmp 41) = e41
    generalize a9.eval (.tmp 42) = e42
    generalize a9.eval (.tmp 43) = e43
    generalize a9.eval (.tmp 44) = e44
    generalize a9.eval (.tmp 45) = e45
    generalize a9.eval (.tmp 46) = e46
    generalize a9.eval (.tmp 47) = e47
    generalize a9.eval (.tmp 48) = e48
    generalize a9.eval (.tmp 49) = e49
    generalize a9.eval (.tmp 50) = e50
    generalize a9.eval (.tmp 51) = e51
    generalize a9.eval (.tmp 52) = e52
    clear hm7 hall
    simp only [Act.put, List.setIfInBounds_toArray, List.set_cons_succ, List.set_cons_zero]
    have t8 := run_str (RZ.out.rds (m3 + m4) (m3 + m4) (by rw [bytesV_len, List.length_append, HAX.out, HBX.out]) (Nat.le_refl _) (by unfold maxLen; omega))
    have tx := run_str (RX.out.rds m3 m3 (by rw [bytesV_len, HAX.out]) (Nat.le_refl _) (by unfold maxLen; omega))
    have ty := run_str (RY.out.rds m4 m4 (by rw [bytesV_len, HBX.out]) (Nat.le_refl _) (by unfold maxLen; omega))
    rw [← List.append_toArray] at t8
    obtain ⟨SA, hSA⟩ : ∃ s : ByteArray, s = ⟨XA.toArray⟩ := ⟨_, rfl⟩
    obtain ⟨SB, hSB⟩ : ∃ s : ByteArray, s = ⟨XB.toArray⟩ := ⟨_, rfl⟩
    have hsab : (⟨XA.toArray ++ XB.toArray⟩ : ByteArray) = SA ++ SB := by rw [hSA, hSB]; apply ByteArray.ext; simp
    rw [hsab] at t8
    have hsz : ¬ 9223372036854775807 < SA.size + SB.size := by
      have h1 : SA.size = m3 := by rw [hSA]; exact HAX.out
      have h2 : SB.size = m4 := by rw [hSB]; exact HBX.out
      omega
    rw [← hSA] at tx
    rw [← hSB] at ty
    clear hsab hSA hSB
    go_wp2_with (go_at_call 12; refine (awake_any _).mono ?_; rintro e w5 ⟨rfl, hg5⟩)
    go_ret
    exact ⟨rfl, HG7.out.trans hg5⟩
end Go.Proofs.Ytmhpnddelebjdaa
