/-
  match's put over this program.
-/
import Derived.Test.YtibofgokdjbomaaTokSize
import Derived.Test.YtibofgokdjbomaaAppBytes
namespace Go.Proofs.Ytibofgokdjbomaa
set_option maxRecDepth 1000000
open Go.RowKit

theorem below_step {B : Nat} {w W W' : World} {row : Option Nat} (h : Below B w W) (hB : B ≤ w.heap.size) (g : W.grownBy W' row) (hr : ∀ r, row = some r → B ≤ r) : Below B w W' :=
  ⟨g.os.trans h.os, g.tape.trans h.tape, g.output.trans h.output, Nat.le_trans h.size g.size, fun k hk => (g.block k (Nat.lt_of_lt_of_le (Nat.lt_of_lt_of_le hk hB) h.size) (fun e => by have := hr k e.symm; omega)).trans (h.block k hk)⟩
theorem below_alloc {B : Nat} {w W : World} (h : Below B w W) (hB : B ≤ w.heap.size) (o : Obj) : Below B w (W.alloc o) := below_step h hB (grown_alloc (grown_refl _ none) _) (fun r e => by cases e)
theorem below_grown0 {B : Nat} {w W W' : World} (h : Below B w W) (hB : B ≤ w.heap.size) (g : W.grownBy W' none) : Below B w W' := below_step h hB g (fun r e => by cases e)
theorem below_trans {B : Nat} {w W W' : World} (h : Below B w W) (g : Below B W W') : Below B w W' :=
  ⟨g.os.trans h.os, g.tape.trans h.tape, g.output.trans h.output, Nat.le_trans h.size g.size, fun k hk => (g.block k hk).trans (h.block k hk)⟩
theorem below_grown {w w' : World} (h : Below w.heap.size w w') : w.grownBy w' none := ⟨h.os, h.tape, h.output, h.size, fun k hk _ => h.block k hk⟩
theorem own_same {w w' : World} {base size n : Nat} {e : TypeId} {v : Value} {xs : List Value} (h : w.ownsRow base e size v n xs) (hk : ∀ b, v.ownBlock = some b → w'.heap[b]? = w.heap[b]?) : w'.ownsRow base e size v n xs := by
  refine ⟨h.1, ?_⟩
  rcases h.2 with hn | ⟨g, cap, cur, rfl, hb, hgg, rest⟩
  · exact .inl hn
  · exact .inr ⟨g, cap, cur, rfl, hb, (hk g rfl).trans hgg, rest⟩
theorem own_grown {w w' : World} {base size n : Nat} {e : TypeId} {v : Value} {xs : List Value} (h : w.ownsRow base e size v n xs) (hg : w.grownBy w' none) : w'.ownsRow base e size v n xs :=
  own_same h (fun b hb => hg.block b (h.lt b hb).2 (by simp))

theorem Rd.byteAt (w : World) (c : UInt8) (t : TypeId) {g : Nat} (h : w.heap.size = g) : Rd (w.alloc (.cells #[.int .u8 (c.toNat : Int)] t)) (.slice (some ⟨g, 0, none⟩) 1 1) (bytesV [c]) := by
  subst h
  exact Rd.one w _ t
/-- What put answers. -/
def PutOut (base : Nat) (w : World) (out : List UInt8) (e : Ending) (w' : World) : Prop :=
  ∃ v', e = .returned v' ∧ w'.ownsRow base 5 1 v' out.length (bytesV out) ∧ Below base w w'

/-- Ahead of a round of a loop that copies. -/
structure Cop (base : Nat) (w W : World) (gT : Nat) (t : Tok) (v : Value) (out : List UInt8) : Prop where
  own : W.ownsRow base 5 1 v out.length (bytesV out)
  row : Row W gT 37 (tokC t)
  ne : v.ownBlock ≠ some gT
  low : Below base w W
  room : base ≤ W.heap.size

set_option maxHeartbeats 4000000 in
theorem put_any (base : Nat) (v : Value) (out : List UInt8) (t : Tok) (w : World) (ho : w.ownsRow base 5 1 v out.length (bytesV out)) (hr : right t = true) (hb : t.back ≤ out.length) (hl : out.length ≤ 100000) (hbase : base ≤ w.heap.size) :
    Calls Try.prog 47 #[v, tokV t] w (PutOut base w (putTok out t)) := by
  have hrl := right_len hr
  by_cases h0 : t.len = 0
  · have hp : putTok out t = out ++ [t.lit] := by rw [putTok, if_pos h0]
    rw [hp]
    obtain ⟨c, n, b⟩ := t
    simp only at h0
    subst h0
    have HO := Lib.hid ho
    have HL := Lib.hid hl
    have HBS := Lib.hid hbase
    clear ho hr hb hrl hl hbase hp
    unfold tokV
    simp only
    go_enter Try.func47, Try.ntmps47
    go_wp2_with (at_builtin; refine wpList_append_bytes _ rfl _ _ rfl base v out.length (bytesV out) rfl (own_grown (own_grown HO.out (grown_alloc (grown_refl _ none) _)) (grown_alloc (grown_refl _ none) _)) _ [c] rfl (Rd.byteAt _ _ _ (by simp)) ?_ ?_ ?_)
    · have := HL.out; simp; omega
    · have := HBS.out; simp; omega
    · intro v' w1 ho1 hg1 hat
      have HO1 := Lib.hid ho1
      have HG1 := Lib.hid hg1
      have HBV := Lib.hid (fun r (e : v.ownBlock = some r) => (HO.out.lt r e).1)
      clear ho1 hg1 hat
      go_wp2
      go_ret
      refine ⟨_, rfl, ?_, below_step (below_alloc (below_alloc (Below.refl base w) HBS.out _) HBS.out _) HBS.out HG1.out HBV.out⟩
      rw [bytesV_app, List.length_append]
      exact HO1.out
  · obtain ⟨c, n, b⟩ := t
    simp only at h0 hrl hb
    obtain ⟨N, rfl⟩ : ∃ N : Nat, n = (N : Int) := ⟨n.toNat, by omega⟩
    obtain ⟨B, rfl⟩ : ∃ B : Nat, b = (B : Int) := ⟨b.toNat, by omega⟩
    have hp : putTok out ⟨c, N, B⟩ = copyS B out N := by rw [putTok, if_neg h0]; rfl
    rw [hp]
    have HB := Lib.hid (show 1 ≤ B ∧ B ≤ out.length by omega)
    have h0' : ((N : Int) == 0) = false := by simpa using h0
    have hN : N ≤ 258 := by omega
    have HO := Lib.hid ho
    have HL := Lib.hid hl
    have HBS := Lib.hid hbase
    have RN := Lib.hid (Row.new w 37 (tokC ⟨c, N, B⟩))
    have HC0 := Lib.hid (show Cop base w (w.alloc (.cells (tokC ⟨c, N, B⟩).toArray 37)) w.heap.size ⟨c, N, B⟩ v (copyS B out 0) from
      ⟨own_grown ho (grown_alloc (grown_refl _ none) _), Row.new w _ _, fun e => by have := (ho.lt _ e).2; omega, below_alloc (Below.refl base w) hbase _, by simp; omega⟩)
    clear ho hr hb hrl hl hbase hp
    unfold tokV
    simp only
    go_enter Try.func47, Try.ntmps47
    go_wp2
    generalize hG : w.heap.size = G at *
    go_loopw [15, 0] (fun i u W => ∃ k : Nat, k ≤ N ∧ i = .int .i64 k ∧ Cop base w W G ⟨c, N, B⟩ u (copyS B out k)) (fun i _ _ => N - (intOf i).toNat)
    case atStart => exact ⟨0, Nat.zero_le _, rfl, HC0.out⟩
    case round =>
      obtain ⟨k, hk, rfl, hcop⟩ := hrel
      by_cases hlt : k < N
      · have hown := hcop.own
        have hcl := copyS_len B out k
        rw [hcl] at hown
        obtain ⟨gr, cp, rfl⟩ : ∃ gr cp, u0 = .slice (some ⟨gr, 0, none⟩) (out.length + k) cp := by
          rcases hown.2 with ⟨_, e⟩ | ⟨gr, cp, cur, e, _⟩
          · have := HB.out; omega
          · exact ⟨gr, cp, e⟩
        have hidx : ((out.length + k : Nat) : Int) - (B : Int) = ((out.length + k - B : Nat) : Int) := by have := HB.out; omega
        have hlt2 : out.length + k - B < out.length + k := by have := HB.out; omega
        have hsmall : out.length + k ≤ 200000 := by have := HL.out; omega
        obtain ⟨x, hx⟩ : ∃ x, (copyS B out k).getD ((copyS B out k).length - B) 0 = x := ⟨_, rfl⟩
        have hnext : copyS B out (k + 1) = copyS B out k ++ [x] := by rw [copyS, hx]
        have cb : wr.cell? ⟨gr, out.length + k - B, none⟩ = some (.int .u8 (x.toNat : Int)) := by
          have e := hown.cellAt (out.length + k - B) (by omega)
          rw [e, ← hx, hcl]
          exact bytesV_at _ _ (by rw [hcl]; exact hlt2)
        have ct := hcop.row.cell (j := 2) rfl
        have HCOP := Lib.hid hcop
        have HNX := Lib.hid hnext
        have HCL := Lib.hid hcl
        clear hcop hown hcl hx hnext
        generalize hP : out.length + k - B = P at *
        go_wp2_with (at_builtin; refine wpList_append_bytes _ rfl _ _ rfl base _ (copyS B out k).length (bytesV (copyS B out k)) rfl (own_grown HCOP.out.own (grown_alloc (grown_refl _ none) _)) _ [x] rfl (Rd.byteAt _ _ _ (by simp)) ?_ ?_ ?_)
        · rw [HCL.out]; omega
        · have := HCOP.out.room
          omega
        · intro v' w1 ho1 hg1 hat
          have hal := grown_alloc (grown_refl wr none) (.cells #[.int .u8 (x.toNat : Int)] 5)
          have HN1 := Lib.hid (show Cop base w w1 G ⟨c, N, B⟩ v' (copyS B out (k + 1)) from ⟨by
              rw [HNX.out, bytesV_app, List.length_append]; exact ho1, (HCOP.out.row.grown0 hal).grown hg1 (fun e => HCOP.out.ne e.symm), by
              rcases hat with e | e
              · rw [e]; exact HCOP.out.ne
              · rw [e]; intro e2; injection e2 with e2; have := HCOP.out.row.lt; first | omega | (simp at e2; omega),
            below_step (below_alloc HCOP.out.low (by rw [hG]; exact HBS.out) _) (by rw [hG]; exact HBS.out) hg1 (fun r e => (HCOP.out.own.lt r e).1), by have := HCOP.out.room; have := hal.size; have := hg1.size; omega⟩)
          clear ho1 hg1 hat hal cb ct
          go_wp2
          go_roundw
          case rel => exact ⟨k + 1, by omega, rfl, HN1.out⟩
          case measure => simp only [intOf]; omega
      · have hkn : k = N := by omega
        subst hkn
        go_wp2
        go_ret
        exact ⟨_, rfl, hcop.own, hcop.low⟩
end Go.Proofs.Ytibofgokdjbomaa
