/-
  octet.List of numbers, over this program; the walk of the law OctetLists.
-/
import Derived.Test.YtldambmhclgpoaaAwake
import Derived.Test.YtldambmhclgpoaaEnc
import Derived.Test.YtldambmhclgpoaaRef
import Derived.BigQuiet
import Derived.Deep.QuietTactic
namespace Go.Proofs.Ytldambmhclgpoaa
open Go.RowKit

theorem info3 : ∃ i, Try.prog.info? 3 = some i ∧ i.zero = some (.int .i64 0) ∧ i.size = 1 ∧ i.bytes = 8 := by
  have h : (Try.prog.info? 3).map (fun i => (i.zero, i.size, i.bytes)) = some (some (.int .i64 0), 1, 8) := by kernel_rfl
  obtain ⟨i, hi, he⟩ := Option.map_eq_some_iff.1 h
  simp only [Prod.mk.injEq] at he
  exact ⟨i, hi, he.1, he.2.1, he.2.2⟩

def intsV (l : List Nat) : List Value := l.map fun n : Nat => Value.int .i64 (n : Int)
theorem intsV_len (l : List Nat) : (intsV l).length = l.length := by simp [intsV]

/-- The bytes of some numbers, one behind the other. -/
def encs (l : List Nat) : List UInt8 := l.flatMap enc
theorem encs_cons (n : Nat) (l : List Nat) : encs (n :: l) = enc n ++ encs l := by simp [encs]
theorem encs_snoc (n : Nat) (l : List Nat) : encs (l ++ [n]) = encs l ++ enc n := by simp [encs]
theorem encs_len (l : List Nat) (h : ∀ n ∈ l, n ≤ 1099511627775) : (encs l).length ≤ 6 * l.length := by
  induction l with
  | nil => simp [encs]
  | cons n l ih =>
    rw [encs_cons, List.length_append, List.length_cons]
    have := enc_six n (h n (by simp))
    have := ih fun m hm => h m (by simp [hm])
    omega

theorem num_enc (n : Nat) (r : List UInt8) (most : Int) (hn : n ≤ 1099511627775) (hm : (n : Int) ≤ most) : numOf (enc n ++ r) 0 most = (n, r, 0) := by
  unfold numOf
  rw [first_enc n r hn, if_pos rfl, if_pos rfl, if_neg (by simp only; omega)]
  simp
theorem num_range (n : Nat) (r : List UInt8) (most : Int) (hn : n ≤ 1099511627775) (hm : ¬ (n : Int) ≤ most) : numOf (enc n ++ r) 0 most = (0, enc n ++ r, 3) := by
  unfold numOf
  rw [first_enc n r hn, if_pos rfl, if_pos rfl, if_pos (by simp only; omega)]

theorem run_eql_func_nil' (k : Nat) (W : World) : Sem.run Try.prog (binOp .eql 55 (.func (.func k) #[] #[]) .nilFunc) W = .ok (.bool false) W := by
  kernel_rfl

set_option maxHeartbeats 400000 in
theorem one_at (g : Nat) (l : List UInt8) (x : Int) (w : World) (h : Rdr w g l x) (hl : l.length ≤ 140737488355328) :
    Calls Try.prog 30 #[.pointer (some ⟨g, 0, none⟩)] w (RdrOut w g (.int .i64 (numOf l x 1099511627775).1) (numOf l x 1099511627775).2.1 (numOf l x 1099511627775).2.2) := by
  have H := Lib.hid (rnum_at g l x 1099511627775 w h hl)
  clear h
  go_enter Try.func30, Try.ntmps30
  go_wp2_with fail
  refine H.out.mono ?_
  rintro e w1 ⟨rfl, hr, hg⟩
  go_wp2
  go_ret
  exact ⟨rfl, hr, hg⟩

/-- What List answers. -/
def ListOut (w : World) (g : Nat) (ns : List Nat) (r : List UInt8) (x : Int) (e : Ending) (w' : World) : Prop :=
  ∃ v, e = .returned v ∧ Rd w' v (intsV ns) ∧ Rdr w' g r x ∧ w.grownBy w' (some g) ∧ ∀ b, v.ownBlock = some b → w.heap.size ≤ b

set_option maxHeartbeats 1000000 in
theorem list_range (g n : Nat) (r : List UInt8) (up : Int) (w : World) (h : Rdr w g (enc n ++ r) 0) (hl : (enc n ++ r).length ≤ 140737488355328) (hn : n ≤ 1099511627775) (hup : ¬ (n : Int) ≤ up) (k : Nat) :
    Calls Try.prog 29 #[.pointer (some ⟨g, 0, none⟩), .int .i64 up, .func (.func k) #[] #[]] w (ListOut w g [] (enc n ++ r) 3) := by
  have hf := run_eql_func_nil' k
  have H := rnum_at g _ 0 up w h hl
  rw [num_range n r up hn hup] at H
  have H0 := Lib.hid H
  clear H h hup
  go_enter Try.func29, Try.ntmps29
  go_wp2_with fail
  refine H0.out.mono ?_
  rintro e w1 ⟨rfl, hr, hg⟩
  go_wp2
  go_loop [8, 16] (fun a b => a = .slice none 0 0 ∧ b = .int .i64 0) (fun _ _ => 0)
  case atStart => exact ⟨rfl, rfl⟩
  case round =>
    obtain ⟨rfl, rfl⟩ := hrel
    go_wp2
    go_ret
    exact ⟨_, rfl, Rd.nil _, hr, hg, fun b hb => by cases hb⟩

set_option maxHeartbeats 1000000 in
theorem list_ok (g : Nat) (ns : List Nat) (r : List UInt8) (up : Int) (w : World) (h : Rdr w g (enc ns.length ++ (encs ns ++ r)) 0) (hl : (enc ns.length ++ (encs ns ++ r)).length ≤ 1000000) (hns : ∀ n ∈ ns, n ≤ 1099511627775) (hlen : ns.length ≤ 1000000) (hup : (ns.length : Int) ≤ up) :
    Calls Try.prog 29 #[.pointer (some ⟨g, 0, none⟩), .int .i64 up, .func (.func 30) #[] #[]] w (ListOut w g ns r 0) := by
  have hf := run_eql_func_nil' 30
  have H := rnum_at g _ 0 up w h (by omega)
  rw [num_enc ns.length _ up (by omega) hup] at H
  have H0 := Lib.hid H
  have hlt := h.lt
  have HNS := Lib.hid hns
  have hl2 : (encs ns ++ r).length ≤ 1000000 := by rw [List.length_append] at hl; omega
  have HL2 : Hid ((encs ns ++ r).length ≤ 1000000) := hl2
  clear H h hup hns hl hl2
  generalize hc : ns.length = cnt at *
  have HC := Lib.hid hc
  clear hc
  obtain ⟨i, hi, hz, hs1, hb1⟩ := info3
  have HI := Lib.hid (And.intro hi (And.intro hz (And.intro hs1 hb1)))
  clear hb1 hi hz hs1
  go_enter Try.func29, Try.ntmps29
  go_wp2_with fail
  refine H0.out.mono ?_
  rintro e w1 ⟨rfl, hr, hg⟩
  go_wp2
  go_loopw [8, 9, 16] (fun s _ t W => ∃ j : Nat, j ≤ cnt ∧ t = .int .i64 j ∧ W.ownsRow w.heap.size 3 1 s j (intsV (ns.take j)) ∧ Rdr W g (encs (ns.drop j) ++ r) 0 ∧ w.grownBy W (some g)) (fun _ _ t _ => cnt - (intOf t).toNat)
  case atStart => exact ⟨0, Nat.zero_le _, rfl, World.ownsRow_nil _ _ _ _, hr, hg⟩
  case round =>
    clear hr hg
    obtain ⟨j, hj, rfl, hown, hr, hg⟩ := hrel
    by_cases hjlt : j < cnt
    · have hjl : j < ns.length := by rw [HC.out]; exact hjlt
      have hd : ns.drop j = ns[j] :: ns.drop (j + 1) := List.drop_eq_getElem_cons hjl
      have ht : ns.take (j + 1) = ns.take j ++ [ns[j]] := by rw [List.take_succ_eq_append_getElem hjl]
      have hle := HNS.out ns[j] (List.getElem_mem hjl)
      generalize ns[j] = y at *
      have hlr : (encs (ns.drop j) ++ r).length ≤ 1000000 := by
        have h1 := HL2.out
        have h2 : encs ns = encs (ns.take j) ++ encs (ns.drop j) := by
          unfold encs
          rw [← List.flatMap_append, List.take_append_drop]
        rw [h2] at h1
        simp only [List.length_append] at h1 ⊢
        omega
      have HO := one_at g _ 0 _ hr (by omega)
      rw [hd, encs_cons, List.append_assoc, num_enc y _ _ hle (by omega)] at HO
      have HO0 := Lib.hid HO
      have HT := Lib.hid ht
      clear HO hd ht hlr
      go_wp2_with fail
      refine HO0.out.mono ?_
      rintro e w2 ⟨rfl, hr2, hg2⟩
      have HE := Lib.hid (err_at g _ 0 w2 hr2)
      have hown2 : w2.ownsRow w.heap.size 3 1 u8 j (intsV (ns.take j)) := by
        refine hown.kept hg2 ?_
        cases hb : u8.ownBlock with
        | none => exact .inl rfl
        | some b =>
          right
          intro e
          injection e with e
          have := (hown.lt b hb).1
          omega
      clear hown
      go_wp2_with (first | (go_at_call 28; refine HE.out.mono ?_; rintro e w3 ⟨rfl, rfl⟩) | (at_builtin; refine wpList_append_rd _ rfl _ _ _ rfl w.heap.size 3 i (.int .i64 0) 8 Try.underlying53 HI.out.1 HI.out.2.1 HI.out.2.2.1 HI.out.2.2.2 rfl _ j _ rfl (hown2.alloc _) _ [.int .i64 (y : Int)] rfl ?_ (fun x hx => by simp at hx; subst hx; rfl) ?_ ?_ ?_ ?_))
      · exact Rd.one _ _ _
      · simp; omega
      · simp; omega
      · have := hg.size; have := hg2.size; simp; omega
      · intro v' w' ho hgn hat
        have hrow : ∀ b, u8.ownBlock = some b → w.heap.size ≤ b := fun b hb => (hown2.lt b hb).1
        have hrn : Rdr w' g (encs (ns.drop (j + 1)) ++ r) 0 := (hr2.grown (grown_alloc (grown_refl _ none) _) (fun _ h => by cases h)).grown hgn (fun b hb => by have := hrow b hb; omega)
        have hgf : w.grownBy w' (some g) := by
          have h1 := grown_alloc (hg.trans hg2) (.cells #[.int .i64 (y : Int)] 3)
          exact ⟨hgn.os.trans h1.os, hgn.tape.trans h1.tape, hgn.output.trans h1.output, Nat.le_trans h1.size hgn.size, fun i hi hne => (hgn.block i (Nat.lt_of_lt_of_le hi h1.size) (fun e => by have := hrow i e.symm; omega)).trans (h1.block i hi hne)⟩
        go_wp2
        go_roundw
        case rel => exact ⟨j + 1, by omega, by go_num, by rw [HT.out]; simpa [intsV] using ho, hrn, hgf⟩
        case measure => simp [intOf]; omega
    · have hjc : j = cnt := by omega
      have hd : ns.drop j = [] := List.drop_eq_nil_of_le (by rw [HC.out]; omega)
      have ht : ns.take j = ns := List.take_of_length_le (by rw [HC.out]; omega)
      rw [hd] at hr
      rw [ht] at hown
      clear hjc hd ht
      go_wp2
      go_ret
      exact ⟨_, rfl, Rd.of_own hown, hr, hg, fun b hb => (hown.lt b hb).1⟩
end Go.Proofs.Ytldambmhclgpoaa
