/-
  octet's Reader: Bytes and Fixed, over this program.
-/
import Derived.Test.YtldambmhclgpoaaRNum
namespace Go.Proofs.Ytldambmhclgpoaa
open Go.RowKit

theorem numOf_len (l : List UInt8) (x most : Int) : (numOf l x most).2.1.length ≤ l.length := by
  unfold numOf
  split
  · split
    · split
      · exact Nat.le_refl _
      · simp
    · exact Nat.le_refl _
  · exact Nat.le_refl _

/-- The bytes that are read, what is left, and the error. -/
def rbytesOf (l : List UInt8) (x most : Int) : List UInt8 × List UInt8 × Int := takeOf (numOf l x most).2.1 (numOf l x most).2.2 (numOf l x most).1

/-- What Bytes answers: new bytes. -/
def RBytesOut (w : World) (g : Nat) (p : List UInt8 × List UInt8 × Int) (e : Ending) (w' : World) : Prop :=
  ∃ v, e = .returned v ∧ Rd w' v (bytesV p.1) ∧ Rdr w' g p.2.1 p.2.2 ∧ w.grownBy w' (some g) ∧ ∀ b, v.ownBlock = some b → w.heap.size ≤ b ∧ b < w'.heap.size

theorem takeOf_len (l : List UInt8) (x : Int) (n : Nat) : (takeOf l x n).1.length ≤ l.length := by
  unfold takeOf
  split
  · split
    · simp; omega
    · simp
  · simp

set_option maxHeartbeats 400000 in
theorem clone_nil (w : World) :
    Calls Try.prog 35 #[.slice none 0 0] w fun e w' => e = .returned (.slice none 0 0) ∧ w = w' := by
  have hnil := fun W => Lib.run_eql_slice_nil (P := Try.prog) W 22 5 none 0 0 0 0 Try.underlying22
  go_enter Try.func35, Try.ntmps35
  go_wp2
  go_ret
  exact ⟨rfl, rfl⟩

theorem take_of_drop {l r : List UInt8} {j : Nat} {y : UInt8} (h : l.drop j = y :: r) : l.take (j + 1) = l.take j ++ [y] := by
  have h1 : l[j]? = some y := by
    have : (l.drop j)[0]? = l[j]? := by rw [List.getElem?_drop]; rfl
    rw [← this, h]
    rfl
  rw [List.take_add_one, h1]
  rfl

set_option maxHeartbeats 400000 in
theorem rbytes_nil (most : Int) (w : World) :
    Calls Try.prog 21 #[.pointer none, .int .i64 most] w fun e w' => e = .returned (.slice none 0 0) ∧ w = w' := by
  go_enter Try.func21, Try.ntmps21
  go_wp2_with (first | (go_at_call 19; refine (rnum_nil _ _).mono ?_; rintro e w1 ⟨rfl, rfl⟩) | (go_at_call 37; refine (take_nil _ _).mono ?_; rintro e w1 ⟨rfl, rfl⟩) | (go_at_call 35; refine (clone_nil _).mono ?_; rintro e w1 ⟨rfl, rfl⟩))
  go_ret
  exact ⟨rfl, rfl⟩

set_option maxHeartbeats 1000000 in
theorem rbytes_at (g : Nat) (l : List UInt8) (x most : Int) (w : World) (h : Rdr w g l x) (hl : l.length ≤ 140737488355328) :
    Calls Try.prog 21 #[.pointer (some ⟨g, 0, none⟩), .int .i64 most] w (RBytesOut w g (rbytesOf l x most)) := by
  have HN := Lib.hid (rnum_at g l x most w h hl)
  have hln := numOf_len l x most
  have hlt := h.lt
  unfold rbytesOf
  generalize numOf l x most = p at *
  obtain ⟨n, l1, x1⟩ := p
  clear h
  have hl1 : l1.length ≤ 140737488355328 := Nat.le_trans hln hl
  have HL1 : Hid (l1.length ≤ 140737488355328) := hl1
  clear hl hl1 hln
  go_enter Try.func21, Try.ntmps21
  go_wp2_with fail
  refine HN.out.mono ?_
  rintro e w1 ⟨rfl, hr1, hg1⟩
  have HT := Lib.hid (take_at g l1 x1 n w1 hr1)
  have htl := takeOf_len l1 x1 n
  go_wp2_with fail
  refine HT.out.mono ?_
  show ∀ e w', TakeOut w1 g (takeOf l1 x1 n) e w' → _
  generalize takeOf l1 x1 n = q at *
  rintro e w2 ⟨v2, rfl, hv2, hb2, hr2, hg2⟩
  have HC := Lib.hid (clone_any v2 q.1 w2 hv2 (Nat.le_trans htl HL1.out))
  obtain ⟨A2, c2, rfl⟩ := hv2.form
  go_wp2_with fail
  refine HC.out.mono ?_
  rintro e w3 ⟨v3, rfl, hr3, hg3, hf3⟩
  go_wp2
  go_ret
  refine ⟨_, rfl, hr3, hr2.grown hg3 (fun b hb => by cases hb), (hg1.trans hg2).trans (grown_none hg3 _), fun b hb => ?_⟩
  have := hf3 b hb
  have := hg1.size
  have := hg2.size
  omega

/-- The number of some bytes, the lowest first. -/
def val : List UInt8 → Nat
  | [] => 0
  | c :: r => c.toNat + 256 * val r
theorem val_snoc (l : List UInt8) (c : UInt8) : val (l ++ [c]) = val l + c.toNat * 256 ^ l.length := by
  induction l with
  | nil => simp [val]
  | cons d l ih =>
    rw [List.cons_append, val, ih, val, List.length_cons, Nat.pow_succ, Nat.mul_add]
    have : 256 * (c.toNat * 256 ^ l.length) = c.toNat * (256 ^ l.length * 256) := by rw [Nat.mul_left_comm, Nat.mul_comm 256]
    omega
theorem val_lt (l : List UInt8) : val l < 256 ^ l.length := by
  induction l with
  | nil => simp [val]
  | cons c l ih =>
    have := UInt8.toNat_lt c
    rw [val, List.length_cons, Nat.pow_succ]
    omega

theorem ofIntU64 (a : Nat) (ha : a < 18446744073709551616) : (BitVec.ofInt 64 (a : Int)).toNat = a := by
  rw [BitVec.ofInt_natCast, BitVec.toNat_ofNat]; exact Nat.mod_eq_of_lt (by omega)
theorem or_u64 (a b : Nat) (ha : a < 18446744073709551616) (hb : b < 18446744073709551616) : bits .or .u64 (a : Int) (b : Int) = ((a ||| b : Nat) : Int) := by
  have hx : a ||| b < 2 ^ 64 := Nat.or_lt_two_pow (by omega) (by omega)
  show IntKind.u64.wrap ((BitVec.ofInt 64 (a : Int) ||| BitVec.ofInt 64 (b : Int)).toNat : Int) = _
  rw [BitVec.toNat_or, ofIntU64 a ha, ofIntU64 b hb, IntKind.wrap_u64]
  omega
theorem pow256 (k : Nat) : 2 ^ (8 * k) = 256 ^ k := by rw [Nat.pow_mul]
theorem put8 (acc d k : Nat) (hk : k < 8) (hd : d < 256) (hacc : acc < 256 ^ k) :
    bits BinOp.or IntKind.u64 (acc : Int) (IntKind.u64.wrap ((d : Int) * 2 ^ (8 * k))) = ((acc + d * 256 ^ k : Nat) : Int) := by
  have hp : (256 : Nat) ^ k ≤ 256 ^ 7 := Nat.pow_le_pow_right (by omega) (by omega)
  have h2 : d * 256 ^ k ≤ 255 * 256 ^ k := Nat.mul_le_mul_right _ (by omega)
  have e1 : ((d : Int) * 2 ^ (8 * k)) = ((d * 256 ^ k : Nat) : Int) := by
    rw [← pow256]
    push_cast
    rfl
  have h3 := or_add acc d (8 * k) (by rw [pow256]; exact hacc)
  rw [pow256] at h3
  rw [e1]
  have e2 : IntKind.u64.wrap ((d * 256 ^ k : Nat) : Int) = ((d * 256 ^ k : Nat) : Int) := by rw [IntKind.wrap_u64]; omega
  rw [e2, or_u64 _ _ (by omega) (by omega), h3]

/-- The number of a width that is read, what is left, and the error. -/
def fixOf (l : List UInt8) (x k : Int) : Nat × List UInt8 × Int :=
  if okWidth k then (val (takeOf l x k.toNat).1, (takeOf l x k.toNat).2) else (0, l, failOf x 3)

set_option maxHeartbeats 400000 in
theorem rfix_nil (k : Int) (w : World) :
    Calls Try.prog 23 #[.pointer none, .int .i64 k] w fun e w' => e = .returned (.int .u64 0) ∧ w = w' := by
  cases hk : okWidth k
  · go_enter Try.func23, Try.ntmps23
    go_wp2_with (first | (go_at_call 34; refine (rightWidth_any _ _).mono ?_; rintro e w1 ⟨rfl, rfl⟩) | (go_at_call 27; refine (fail_nil _ _).mono ?_; rintro e w1 ⟨rfl, rfl⟩))
    go_ret
    exact ⟨rfl, rfl⟩
  · go_enter Try.func23, Try.ntmps23
    go_wp2_with (first | (go_at_call 34; refine (rightWidth_any _ _).mono ?_; rintro e w1 ⟨rfl, rfl⟩) | (go_at_call 37; refine (take_nil _ _).mono ?_; rintro e w1 ⟨rfl, rfl⟩))
    go_loop [5, 17] (fun a t => a = .int .u64 0 ∧ t = .int .i64 0) (fun _ _ => 0)
    case atStart => exact ⟨rfl, rfl⟩
    case round =>
      obtain ⟨rfl, rfl⟩ := hrel
      go_wp2
      go_ret
      exact ⟨rfl, rfl⟩

set_option maxHeartbeats 1000000 in
theorem rfix_at (g : Nat) (l : List UInt8) (x k : Int) (w : World) (h : Rdr w g l x) :
    Calls Try.prog 23 #[.pointer (some ⟨g, 0, none⟩), .int .i64 k] w (RdrOut w g (.int .u64 (fixOf l x k).1) (fixOf l x k).2.1 (fixOf l x k).2.2) := by
  cases hk : okWidth k
  · have hF : fixOf l x k = (0, l, failOf x 3) := by unfold fixOf; rw [hk]; rfl
    rw [hF]
    clear hF
    have HF := Lib.hid (fail_at g l x 3 w h)
    clear h
    go_enter Try.func23, Try.ntmps23
    go_wp2_with (go_at_call 34; refine (rightWidth_any _ _).mono ?_; rintro e w1 ⟨rfl, rfl⟩)
    refine HF.out.mono ?_
    rintro e w1 ⟨rfl, hr1, hg1⟩
    go_wp2
    go_ret
    exact ⟨rfl, hr1, hg1⟩
  · have hF : fixOf l x k = (val (takeOf l x k.toNat).1, (takeOf l x k.toNat).2) := by unfold fixOf; rw [hk]; rfl
    rw [hF]
    clear hF
    have hk2 : 0 ≤ k ∧ k ≤ 8 := by simpa [okWidth] using hk
    obtain ⟨n, rfl⟩ := Int.eq_ofNat_of_zero_le hk2.1
    rw [Int.toNat_natCast]
    have hn8 : n ≤ 8 := by omega
    have HT := Lib.hid (take_at g l x n w h)
    have htl : (takeOf l x n).1.length ≤ 8 := by
      unfold takeOf
      split
      · split
        · simp; omega
        · simp
      · simp
    clear h hk2
    go_enter Try.func23, Try.ntmps23
    go_wp2_with (go_at_call 34; refine (rightWidth_any _ _).mono ?_; rintro e w1 ⟨rfl, rfl⟩)
    refine HT.out.mono ?_
    show ∀ e w', TakeOut w g (takeOf l x n) e w' → _
    generalize takeOf l x n = q at *
    obtain ⟨o, l1, x1⟩ := q
    rintro e w2 ⟨v2, rfl, hv2, hb2, hr2, hg2⟩
    have HV := hv2
    obtain ⟨A2, c2, rfl⟩ := hv2.form
    clear hv2 hb2
    obtain ⟨_, _, hcm⟩ := HV.len
    clear hcm
    have htl2 : o.length ≤ 8 := htl
    clear htl HT
    have hm := bytesV_len o
    generalize (bytesV o).length = m at *
    have HM := Lib.hid hm
    have hm8 : m ≤ 8 := by omega
    clear hm htl2
    go_wp2
    go_loop [5, 17] (fun a t => ∃ j : Nat, j ≤ m ∧ t = .int .i64 j ∧ a = .int .u64 (val (o.take j))) (fun _ t => m - (intOf t).toNat)
    case atStart => exact ⟨0, Nat.zero_le _, rfl, rfl⟩
    case round =>
      obtain ⟨j, hj, rfl, rfl⟩ := hrel
      by_cases hlt : j < m
      · obtain ⟨ad, y, rfl, hd, hck⟩ := HV.at_ (k := j) (by rw [← HM.out]; exact hlt)
        have hts := take_of_drop hd
        have hb : y.toNat < 256 := UInt8.toNat_lt _
        have hv := val_snoc (o.take j) y
        rw [← hts] at hv
        have hvl := val_lt (o.take j)
        have hlj : (o.take j).length = j := by rw [List.length_take, ← HM.out]; omega
        rw [hlj] at hv hvl
        generalize val (o.take j) = acc at *
        have HVS := Lib.hid hv
        have HVL := Lib.hid hvl
        clear hv hvl hts hd hlj
        go_wp2
        have h8 := put8 acc y.toNat j (by omega) hb HVL.out
        exact ⟨⟨j + 1, by omega, by go_num, by rw [HVS.out, h8]⟩, by simp [intOf]; omega⟩
      · have hjm : o.take j = o := List.take_of_length_le (by rw [← HM.out]; omega)
        rw [hjm]
        clear hjm
        go_wp2
        go_ret
        exact ⟨rfl, hr2, hg2⟩
end Go.Proofs.Ytldambmhclgpoaa
