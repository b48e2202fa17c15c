/-
  The walk of the law DigestPads.
-/
import Derived.Test.YtibpjmbnllmahaaDoorRefPad
import Derived.Test.YtibpjmbnllmahaaDoorDigAwake
import Derived.Laws.BytesString
namespace Go.Proofs.YtibpjmbnllmahaaDoor
open Go.RowKit

theorem foldl_push (l : List UInt8) (s : ByteArray) : (l.map fun c => (c.toNat : Int)).foldl (fun r n => r.push (UInt8.ofNat n.toNat)) s = ⟨s.data ++ l.toArray⟩ := by
  induction l generalizing s with
  | nil => simp
  | cons c l ih =>
    rw [List.map_cons, List.foldl_cons, ih]
    congr 1
    simp [ByteArray.push]

theorem run_str {w : World} {A : Option Addr} {n c : Nat} {l : List UInt8} (h : Rd w (.slice A n c) (bytesV l)) :
    (convert 22 9 (.slice A n c)).run Tryd.prog w = .ok (.string ⟨l.toArray⟩) w := by
  rw [run_convert_bytes_string w 22 9 5 A n c Tryd.underlying22 Tryd.underlying5 Tryd.underlying9]
  obtain ⟨hl, _, _⟩ := h.len
  have hc := h.cells
  have e : bytesV l = (l.map fun c => (c.toNat : Int)).map (Value.int .u8) := by simp [bytesV, byteV]
  cases l with
  | nil =>
    have hn : n = 0 := by simpa [bytesV] using hl.symm
    subst hn
    cases A with
    | none => simp [Conv.bytesToString]; rfl
    | some a =>
      have := run_bytesToString (P := Tryd.prog) w a 0 c [] (by simp [loadCells, loadCellsFrom])
      exact this
  | cons x l =>
    obtain ⟨ad, rfl, hcl⟩ := hc (by simp [bytesV])
    have hld := run_loadCells_list (P := Tryd.prog) w ad (bytesV (x :: l)) hcl
    rw [hl, e] at hld
    rw [run_bytesToString w ad n c _ hld, foldl_push]
    simp

section
variable {P : Program} {ops : Array Oper} {Q : Exit → Act → World → Prop} {row : Option Nat} {w0 : World} {a0 : Act}
/-- An operation that is not wanted. -/
theorem Steps.skip {env : List (Value → World → Prop)} {k : Nat} {o : Oper} {rest : List Oper} (ho : ops[k]? = some o)
    (hs : ∀ a w, Mid ops row w0 a0 a w → Deps ops env.reverse o a w → Region.wanted o (yielded ops a.tmps) = false)
    (hc : Steps P ops Q row w0 a0 (k + 1) rest (Is undef :: env)) : Steps P ops Q row w0 a0 k (o :: rest) env := by
  refine ⟨Is undef, lasts_is _, fun a w hm hd => ?_, hc⟩
  have hw := hs a w hm hd
  unfold wpOp
  rw [ho]
  simp only
  rw [if_neg (by rw [hw]; simp)]
  exact ⟨undef, rfl, grown_refl _ _, rfl⟩
theorem unwanted_at {o : Oper} {a : Act} {g : Nat} {b : Bool} {d : Tmp} {w : World} {u : Value} (h : o.guard = some (g, b)) (hd : (ops[g]?).bind (fun o => o.dst) = some d) (hv : Is u (a.eval (.tmp d)) w) (hu : u ≠ .bool b) : Region.wanted o (yielded ops a.tmps) = false := by
  have h1 : a.tmps.getD d undef = u := hv
  rw [Array.getD_eq_getD_getElem?] at h1
  simp only [Region.wanted, h, yielded, hd]
  cases hx : a.tmps[d]? with
  | none => simp [hx]
  | some y =>
    rw [hx] at h1
    simp only [Option.getD_some] at h1
    subst h1
    simp [hx]
    cases y <;> simp_all
end
section
variable {o : Oper} {a : Act} {w : World}
theorem ex_str {x : Operand} {l : List UInt8} (h : o.op = .convert 22 9 x) (hx : IsB l (a.eval x) w) : (execOp a.eval o).run Tryd.prog w = .ok (.value (.string ⟨l.toArray⟩)) w := by
  obtain ⟨A, c, hA⟩ := Rd.form hx
  have hx' : Rd w (a.eval x) (bytesV l) := hx
  rw [hA] at hx'
  have := run_str hx'
  simp [execOp, h, hA, this]
theorem ex_eqs {x y : Operand} {t : TypeId} {l : List UInt8} (h : o.op = .binOp .eql 9 x y t) (hx : Is (.string ⟨l.toArray⟩) (a.eval x) w) (hy : Is (.string ⟨l.toArray⟩) (a.eval y) w) :
    (execOp a.eval o).run Tryd.prog w = .ok (.value (.bool true)) w := by
  have hx' : a.eval x = .string ⟨l.toArray⟩ := hx
  have hy' : a.eval y = .string ⟨l.toArray⟩ := hy
  simp only [execOp, h, hx', hy']
  simp [go_sem]
theorem ex_lss0 {x : Operand} {n : Int} {b : Bool} (h : o.op = .binOp .lss 3 x (.const (.int .i64 0)) 3) (hx : Is (.int .i64 n) (a.eval x) w) (hb : decide (n < 0) = b) : (execOp a.eval o).run Tryd.prog w = .ok (.value (.bool b)) w := by
  have hx' : a.eval x = .int .i64 n := hx
  have hc : a.eval (.const (.int .i64 0)) = .int .i64 0 := rfl
  simp only [execOp, h, hx', hc]
  simp [go_sem, hb]
theorem ex_len {x : Operand} {l : List UInt8} (h : o.op = .call { callee := .builtin .len, args := #[x], argTypes := #[22] }) (hx : IsB l (a.eval x) w) : (execOp a.eval o).run Tryd.prog w = .ok (.value (.int .i64 (l.length : Int))) w := by
  obtain ⟨A, c, hA⟩ := Rd.form hx
  rw [bytesV_len] at hA
  have hr : (Builtin.len_ #[22] o.type #[.slice A l.length c]).run Tryd.prog w = .ok (.int .i64 (l.length : Int)) w := by simp [go_sem]
  unfold execOp
  simp only [h, resolve, invoke, builtin, Sem.run_bind, Sem.run_pure, Result.andThen_ok, List.map_toArray, List.map_cons, List.map_nil, hA, hr]
theorem ex_addi {x y : Operand} {p q : Int} (h : o.op = .binOp .add 3 x y 3) (hx : Is (.int .i64 p) (a.eval x) w) (hy : Is (.int .i64 q) (a.eval y) w) (h0 : -1000000000000000 ≤ p + q) (h1 : p + q ≤ 1000000000000000) : (execOp a.eval o).run Tryd.prog w = .ok (.value (.int .i64 (p + q))) w := by
  have hx' : a.eval x = .int .i64 p := hx
  have hy' : a.eval y = .int .i64 q := hy
  have hw : IntKind.i64.wrap (p + q) = p + q := by rw [IntKind.wrap_i64]; omega
  simp only [execOp, h, hx', hy']
  simp [go_sem, hw]
theorem ex_rem64 {x : Operand} {p : Int} (h : o.op = .binOp .rem 3 x (.const (.int .i64 64)) 3) (hx : Is (.int .i64 p) (a.eval x) w) (h0 : p % 64 = 0) (h1 : 0 ≤ p) : (execOp a.eval o).run Tryd.prog w = .ok (.value (.int .i64 0)) w := by
  have hx' : a.eval x = .int .i64 p := hx
  have hc : a.eval (.const (.int .i64 64)) = .int .i64 64 := rfl
  have hm : p.tmod 64 = 0 := by rw [Int.tmod_eq_emod_of_nonneg h1]; exact h0
  simp only [execOp, h, hx', hc]
  simp [go_sem, hm]
theorem ex_eq0 {x : Operand} (h : o.op = .binOp .eql 3 x (.const (.int .i64 0)) 3) (hx : Is (.int .i64 0) (a.eval x) w) : (execOp a.eval o).run Tryd.prog w = .ok (.value (.bool true)) w := by
  have hx' : a.eval x = .int .i64 0 := hx
  have hc : a.eval (.const (.int .i64 0)) = .int .i64 0 := rfl
  simp only [execOp, h, hx', hc]
  simp [go_sem]
theorem ex_geq9 {x : Operand} {p : Int} (h : o.op = .binOp .geq 3 x (.const (.int .i64 9)) 3) (hx : Is (.int .i64 p) (a.eval x) w) (h0 : 9 ≤ p) : (execOp a.eval o).run Tryd.prog w = .ok (.value (.bool true)) w := by
  have hx' : a.eval x = .int .i64 p := hx
  have hc : a.eval (.const (.int .i64 9)) = .int .i64 9 := rfl
  simp only [execOp, h, hx', hc]
  simp [go_sem, h0]
theorem ex_leq72 {x : Operand} {p : Int} (h : o.op = .binOp .leq 3 x (.const (.int .i64 72)) 3) (hx : Is (.int .i64 p) (a.eval x) w) (h0 : p ≤ 72) : (execOp a.eval o).run Tryd.prog w = .ok (.value (.bool true)) w := by
  have hx' : a.eval x = .int .i64 p := hx
  have hc : a.eval (.const (.int .i64 72)) = .int .i64 72 := rfl
  simp only [execOp, h, hx', hc]
  simp [go_sem, h0]
theorem ex_pickF {c x y : Operand} {v : Value} (h : o.op = .pick c x y) (hc : Is (.bool false) (a.eval c) w) (hy : Is v (a.eval y) w) : (execOp a.eval o).run Tryd.prog w = .ok (.value v) w := by
  have hc' : a.eval c = .bool false := hc
  have hy' : a.eval y = v := hy
  simp [execOp, h, hc', hy', asBool]
end

set_option maxHeartbeats 4000000 in
theorem digestPads_neg (n : Int) (h0 : n < 0) (w : World) (hT : Tab w) : Calls Tryd.prog 6 #[.int .i64 n] w (Awake w) := by
    have HT := Lib.hid hT
    have hb : decide (1099511627776 < n) = false := by simp; omega
    have hdec : decide (n < 0) = true := by simpa using h0
    clear hT
    go_enter Tryd.func6, Tryd.ntmps6
    go_wp2_with fail
    refine (pad_below n h0 _).mono ?_
    rintro e w1 ⟨u, rfl, hru, hg1, _⟩
    have HR := Lib.hid hru
    have HT1 := Lib.hid (HT.out.grown hg1)
    have HG1 := Lib.hid hg1
    obtain ⟨A, c, rfl⟩ := hru.form
    clear hru hg1
    go_wp2_with fail
    refine wp_region_steps none (by kernel_rfl) (by kernel_rfl) (by kernel_rfl) ?_
    refine Steps.val (G := IsB ([] : List UInt8)) (lasts_bytes _) rfl (fun a w hm hd => ⟨wanted_plain rfl, _, ex_move rfl, (by rw [hm.outer 3 (by kernel_rfl)]; exact HR.out.grown0 hm.grow)⟩) ?_
    refine Steps.val (G := Is (.string ⟨([] : List UInt8).toArray⟩)) (lasts_is _) rfl (fun a w hm hd => ⟨wanted_plain rfl, _, ex_str rfl (hd.at_ 0 rfl rfl rfl), rfl⟩) ?_
    refine Steps.val (G := Is (.int .i64 n)) (lasts_is _) rfl (fun a w hm hd => ⟨wanted_plain rfl, _, ex_move rfl, (by rw [hm.outer 0 (by kernel_rfl)]; exact rfl)⟩) ?_
    refine Steps.call (G := IsB ([] : List UInt8)) (lasts_bytes _) rfl 18 (fun a w hm hd => ⟨wanted_plain rfl, _, ex_call1 Tryd.func18 (by kernel_rfl) (by kernel_rfl) rfl, by
      rw [show a.eval (.tmp 11) = _ from hd.at_ 2 rfl rfl rfl]
      refine (refPad_below n h0 w).mono ?_
      rintro e w' ⟨v, rfl, hr, hg, _⟩
      exact ⟨v, rfl, hg, hr⟩⟩) ?_
    refine Steps.val (G := Is (.string ⟨([] : List UInt8).toArray⟩)) (lasts_is _) rfl (fun a w hm hd => ⟨wanted_plain rfl, _, ex_str rfl (hd.at_ 3 rfl rfl rfl), rfl⟩) ?_
    refine Steps.val (G := Is (.bool true)) (lasts_is _) rfl (fun a w hm hd => ⟨wanted_plain rfl, _, ex_eqs rfl (hd.at_ 1 rfl rfl rfl) (hd.at_ 4 rfl rfl rfl), rfl⟩) ?_
    refine Steps.val (G := Is (.bool true)) (lasts_is _) rfl (fun a w hm hd => ⟨wanted_plain rfl, _, ex_move rfl, (hd.at_ 5 rfl rfl rfl)⟩) ?_
    refine Steps.val (G := Is (.int .i64 n)) (lasts_is _) rfl (fun a w hm hd => ⟨wanted_at rfl rfl (hd.at_ 6 rfl rfl rfl), _, ex_move rfl, (by rw [hm.outer 0 (by kernel_rfl)]; exact rfl)⟩) ?_
    refine Steps.val (G := Is (.bool true)) (lasts_is _) rfl (fun a w hm hd => ⟨wanted_at rfl rfl (hd.at_ 6 rfl rfl rfl), _, ex_lss0 rfl (hd.at_ 7 rfl rfl rfl) hdec, rfl⟩) ?_
    refine Steps.val (G := Is (.bool true)) (lasts_is _) rfl (fun a w hm hd => ⟨wanted_at rfl rfl (hd.at_ 6 rfl rfl rfl), _, ex_move rfl, (hd.at_ 8 rfl rfl rfl)⟩) ?_
    refine Steps.skip rfl (fun a w hm hd => unwanted_at rfl rfl (hd.at_ 9 rfl rfl rfl) (by simp)) ?_
    refine Steps.skip rfl (fun a w hm hd => unwanted_at rfl rfl (hd.at_ 9 rfl rfl rfl) (by simp)) ?_
    refine Steps.skip rfl (fun a w hm hd => unwanted_at rfl rfl (hd.at_ 9 rfl rfl rfl) (by simp)) ?_
    refine Steps.skip rfl (fun a w hm hd => unwanted_at rfl rfl (hd.at_ 9 rfl rfl rfl) (by simp)) ?_
    refine Steps.skip rfl (fun a w hm hd => unwanted_at rfl rfl (hd.at_ 9 rfl rfl rfl) (by simp)) ?_
    refine Steps.skip rfl (fun a w hm hd => unwanted_at rfl rfl (hd.at_ 9 rfl rfl rfl) (by simp)) ?_
    refine Steps.skip rfl (fun a w hm hd => unwanted_at rfl rfl (hd.at_ 9 rfl rfl rfl) (by simp)) ?_
    refine Steps.skip rfl (fun a w hm hd => unwanted_at rfl rfl (hd.at_ 16 rfl rfl rfl) (by simp [undef])) ?_
    refine Steps.skip rfl (fun a w hm hd => unwanted_at rfl rfl (hd.at_ 16 rfl rfl rfl) (by simp [undef])) ?_
    refine Steps.skip rfl (fun a w hm hd => unwanted_at rfl rfl (hd.at_ 16 rfl rfl rfl) (by simp [undef])) ?_
    refine Steps.skip rfl (fun a w hm hd => unwanted_at rfl rfl (hd.at_ 9 rfl rfl rfl) (by simp)) ?_
    refine Steps.skip rfl (fun a w hm hd => unwanted_at rfl rfl (hd.at_ 9 rfl rfl rfl) (by simp)) ?_
    refine Steps.skip rfl (fun a w hm hd => unwanted_at rfl rfl (hd.at_ 21 rfl rfl rfl) (by simp [undef])) ?_
    refine Steps.skip rfl (fun a w hm hd => unwanted_at rfl rfl (hd.at_ 21 rfl rfl rfl) (by simp [undef])) ?_
    refine Steps.skip rfl (fun a w hm hd => unwanted_at rfl rfl (hd.at_ 21 rfl rfl rfl) (by simp [undef])) ?_
    refine Steps.skip rfl (fun a w hm hd => unwanted_at rfl rfl (hd.at_ 9 rfl rfl rfl) (by simp)) ?_
    refine Steps.val (G := Is (.bool true)) (lasts_is _) rfl (fun a w hm hd => ⟨wanted_at rfl rfl (hd.at_ 6 rfl rfl rfl), _, ex_pick rfl (hd.at_ 9 rfl rfl rfl) (show Is (.bool true) _ w from rfl), rfl⟩) ?_
    refine Steps.val (G := Is (.bool true)) (lasts_is _) rfl (fun a w hm hd => ⟨wanted_plain rfl, _, ex_pick rfl (hd.at_ 6 rfl rfl rfl) (hd.at_ 26 rfl rfl rfl), rfl⟩) ?_
    refine Steps.val (G := Is (.bool true)) (lasts_is _) rfl (fun a w hm hd => ⟨wanted_plain rfl, _, ex_move rfl, (hd.at_ 27 rfl rfl rfl)⟩) ?_
    refine Steps.call (G := Is (.bool true)) (lasts_is _) rfl 9 (fun a w hm hd => ⟨wanted_at rfl rfl (hd.at_ 28 rfl rfl rfl), _, ex_call0 Tryd.func9 (by kernel_rfl) (by kernel_rfl) rfl, by
      refine (awake_any w (HT1.out.grown hm.grow)).mono ?_
      rintro e w' ⟨rfl, hg⟩
      exact ⟨_, rfl, hg, rfl⟩⟩) ?_
    refine Steps.val (G := Is (.bool true)) (lasts_is _) rfl (fun a w hm hd => ⟨wanted_plain rfl, _, ex_pick rfl (hd.at_ 28 rfl rfl rfl) (hd.at_ 29 rfl rfl rfl), rfl⟩) ?_
    refine Steps.val (G := Is (.bool true)) (lasts_is _) rfl (fun a w hm hd => ⟨wanted_plain rfl, _, ex_assign rfl, (hd.at_ 30 rfl rfl rfl)⟩) ?_
    intro a w2 hmid hall
    have h2 : a.eval (.tmp 2) = .bool true := hall 31 _ 2 rfl rfl
    have hdf : a.defers = [] := hmid.defers
    have hgr := hmid.grow
    clear hall hmid
    obtain ⟨tm, df⟩ := a
    simp only at hdf
    subst hdf
    go_wp2
    go_ret
    exact ⟨congrArg Ending.returned h2, HG1.out.trans hgr⟩

set_option maxHeartbeats 4000000 in
theorem digestPads_nat (n : Nat) (hn : n ≤ 1099511627776) (w : World) (hT : Tab w) : Calls Tryd.prog 6 #[.int .i64 (n : Int)] w (Awake w) := by
    have HT := Lib.hid hT
    have HN := Lib.hid (show n ≤ 2199023255552 by omega)
    have hb : decide (1099511627776 < (n : Int)) = false := by simp; omega
    have hdec : decide ((n : Int) < 0) = false := by simp
    have hpl := pad_len n
    have hpz := padZ_lt n
    have hpw := pad_whole n
    have HPL := Lib.hid (And.intro hpl (And.intro hpz hpw))
    clear hT hpl hpz hpw
    go_enter Tryd.func6, Tryd.ntmps6
    go_wp2_with fail
    refine (pad_any n HN.out _).mono ?_
    rintro e w1 ⟨u, rfl, hru, hg1, _⟩
    have HR := Lib.hid hru
    have HT1 := Lib.hid (HT.out.grown hg1)
    have HG1 := Lib.hid hg1
    obtain ⟨A, c, rfl⟩ := hru.form
    clear hru hg1
    go_wp2_with fail
    refine wp_region_steps none (by kernel_rfl) (by kernel_rfl) (by kernel_rfl) ?_
    refine Steps.val (G := IsB (pad n)) (lasts_bytes _) rfl (fun a w hm hd => ⟨wanted_plain rfl, _, ex_move rfl, (by rw [hm.outer 3 (by kernel_rfl)]; exact HR.out.grown0 hm.grow)⟩) ?_
    refine Steps.val (G := Is (.string ⟨(pad n).toArray⟩)) (lasts_is _) rfl (fun a w hm hd => ⟨wanted_plain rfl, _, ex_str rfl (hd.at_ 0 rfl rfl rfl), rfl⟩) ?_
    refine Steps.val (G := Is (.int .i64 (n : Int))) (lasts_is _) rfl (fun a w hm hd => ⟨wanted_plain rfl, _, ex_move rfl, (by rw [hm.outer 0 (by kernel_rfl)]; exact rfl)⟩) ?_
    refine Steps.call (G := IsB (pad n)) (lasts_bytes _) rfl 18 (fun a w hm hd => ⟨wanted_plain rfl, _, ex_call1 Tryd.func18 (by kernel_rfl) (by kernel_rfl) rfl, by
      rw [show a.eval (.tmp 11) = _ from hd.at_ 2 rfl rfl rfl]
      refine (refPad_any n HN.out w).mono ?_
      rintro e w' ⟨v, rfl, hr, hg, _⟩
      exact ⟨v, rfl, hg, hr⟩⟩) ?_
    refine Steps.val (G := Is (.string ⟨(pad n).toArray⟩)) (lasts_is _) rfl (fun a w hm hd => ⟨wanted_plain rfl, _, ex_str rfl (hd.at_ 3 rfl rfl rfl), rfl⟩) ?_
    refine Steps.val (G := Is (.bool true)) (lasts_is _) rfl (fun a w hm hd => ⟨wanted_plain rfl, _, ex_eqs rfl (hd.at_ 1 rfl rfl rfl) (hd.at_ 4 rfl rfl rfl), rfl⟩) ?_
    refine Steps.val (G := Is (.bool true)) (lasts_is _) rfl (fun a w hm hd => ⟨wanted_plain rfl, _, ex_move rfl, (hd.at_ 5 rfl rfl rfl)⟩) ?_
    refine Steps.val (G := Is (.int .i64 (n : Int))) (lasts_is _) rfl (fun a w hm hd => ⟨wanted_at rfl rfl (hd.at_ 6 rfl rfl rfl), _, ex_move rfl, (by rw [hm.outer 0 (by kernel_rfl)]; exact rfl)⟩) ?_
    refine Steps.val (G := Is (.bool false)) (lasts_is _) rfl (fun a w hm hd => ⟨wanted_at rfl rfl (hd.at_ 6 rfl rfl rfl), _, ex_lss0 rfl (hd.at_ 7 rfl rfl rfl) hdec, rfl⟩) ?_
    refine Steps.val (G := Is (.bool false)) (lasts_is _) rfl (fun a w hm hd => ⟨wanted_at rfl rfl (hd.at_ 6 rfl rfl rfl), _, ex_move rfl, (hd.at_ 8 rfl rfl rfl)⟩) ?_
    refine Steps.val (G := Is (.int .i64 (n : Int))) (lasts_is _) rfl (fun a w hm hd => ⟨wanted_at rfl rfl (hd.at_ 9 rfl rfl rfl), _, ex_move rfl, (by rw [hm.outer 0 (by kernel_rfl)]; exact rfl)⟩) ?_
    refine Steps.val (G := IsB (pad n)) (lasts_bytes _) rfl (fun a w hm hd => ⟨wanted_at rfl rfl (hd.at_ 9 rfl rfl rfl), _, ex_move rfl, (by rw [hm.outer 3 (by kernel_rfl)]; exact HR.out.grown0 hm.grow)⟩) ?_
    refine Steps.val (G := Is (.int .i64 ((pad n).length : Int))) (lasts_is _) rfl (fun a w hm hd => ⟨wanted_at rfl rfl (hd.at_ 9 rfl rfl rfl), _, ex_len rfl (hd.at_ 11 rfl rfl rfl), rfl⟩) ?_
    refine Steps.val (G := Is (.int .i64 ((n : Int) + ((pad n).length : Int)))) (lasts_is _) rfl (fun a w hm hd => ⟨wanted_at rfl rfl (hd.at_ 9 rfl rfl rfl), _, ex_addi rfl (hd.at_ 10 rfl rfl rfl) (hd.at_ 12 rfl rfl rfl) (by omega) (by have := HN.out; have := HPL.out; omega), rfl⟩) ?_
    refine Steps.val (G := Is (.int .i64 0)) (lasts_is _) rfl (fun a w hm hd => ⟨wanted_at rfl rfl (hd.at_ 9 rfl rfl rfl), _, ex_rem64 rfl (hd.at_ 13 rfl rfl rfl) (by have := HPL.out; omega) (by omega), rfl⟩) ?_
    refine Steps.val (G := Is (.bool true)) (lasts_is _) rfl (fun a w hm hd => ⟨wanted_at rfl rfl (hd.at_ 9 rfl rfl rfl), _, ex_eq0 rfl (hd.at_ 14 rfl rfl rfl), rfl⟩) ?_
    refine Steps.val (G := Is (.bool true)) (lasts_is _) rfl (fun a w hm hd => ⟨wanted_at rfl rfl (hd.at_ 9 rfl rfl rfl), _, ex_move rfl, (hd.at_ 15 rfl rfl rfl)⟩) ?_
    refine Steps.val (G := IsB (pad n)) (lasts_bytes _) rfl (fun a w hm hd => ⟨wanted_at rfl rfl (hd.at_ 16 rfl rfl rfl), _, ex_move rfl, (by rw [hm.outer 3 (by kernel_rfl)]; exact HR.out.grown0 hm.grow)⟩) ?_
    refine Steps.val (G := Is (.int .i64 ((pad n).length : Int))) (lasts_is _) rfl (fun a w hm hd => ⟨wanted_at rfl rfl (hd.at_ 16 rfl rfl rfl), _, ex_len rfl (hd.at_ 17 rfl rfl rfl), rfl⟩) ?_
    refine Steps.val (G := Is (.bool true)) (lasts_is _) rfl (fun a w hm hd => ⟨wanted_at rfl rfl (hd.at_ 16 rfl rfl rfl), _, ex_geq9 rfl (hd.at_ 18 rfl rfl rfl) (by have := HPL.out; omega), rfl⟩) ?_
    refine Steps.val (G := Is (.bool true)) (lasts_is _) rfl (fun a w hm hd => ⟨wanted_at rfl rfl (hd.at_ 9 rfl rfl rfl), _, ex_pick rfl (hd.at_ 16 rfl rfl rfl) (hd.at_ 19 rfl rfl rfl), rfl⟩) ?_
    refine Steps.val (G := Is (.bool true)) (lasts_is _) rfl (fun a w hm hd => ⟨wanted_at rfl rfl (hd.at_ 9 rfl rfl rfl), _, ex_move rfl, (hd.at_ 20 rfl rfl rfl)⟩) ?_
    refine Steps.val (G := IsB (pad n)) (lasts_bytes _) rfl (fun a w hm hd => ⟨wanted_at rfl rfl (hd.at_ 21 rfl rfl rfl), _, ex_move rfl, (by rw [hm.outer 3 (by kernel_rfl)]; exact HR.out.grown0 hm.grow)⟩) ?_
    refine Steps.val (G := Is (.int .i64 ((pad n).length : Int))) (lasts_is _) rfl (fun a w hm hd => ⟨wanted_at rfl rfl (hd.at_ 21 rfl rfl rfl), _, ex_len rfl (hd.at_ 22 rfl rfl rfl), rfl⟩) ?_
    refine Steps.val (G := Is (.bool true)) (lasts_is _) rfl (fun a w hm hd => ⟨wanted_at rfl rfl (hd.at_ 21 rfl rfl rfl), _, ex_leq72 rfl (hd.at_ 23 rfl rfl rfl) (by have := HPL.out; omega), rfl⟩) ?_
    refine Steps.val (G := Is (.bool true)) (lasts_is _) rfl (fun a w hm hd => ⟨wanted_at rfl rfl (hd.at_ 9 rfl rfl rfl), _, ex_pick rfl (hd.at_ 21 rfl rfl rfl) (hd.at_ 24 rfl rfl rfl), rfl⟩) ?_
    refine Steps.val (G := Is (.bool true)) (lasts_is _) rfl (fun a w hm hd => ⟨wanted_at rfl rfl (hd.at_ 6 rfl rfl rfl), _, ex_pickF rfl (hd.at_ 9 rfl rfl rfl) (hd.at_ 25 rfl rfl rfl), rfl⟩) ?_
    refine Steps.val (G := Is (.bool true)) (lasts_is _) rfl (fun a w hm hd => ⟨wanted_plain rfl, _, ex_pick rfl (hd.at_ 6 rfl rfl rfl) (hd.at_ 26 rfl rfl rfl), rfl⟩) ?_
    refine Steps.val (G := Is (.bool true)) (lasts_is _) rfl (fun a w hm hd => ⟨wanted_plain rfl, _, ex_move rfl, (hd.at_ 27 rfl rfl rfl)⟩) ?_
    refine Steps.call (G := Is (.bool true)) (lasts_is _) rfl 9 (fun a w hm hd => ⟨wanted_at rfl rfl (hd.at_ 28 rfl rfl rfl), _, ex_call0 Tryd.func9 (by kernel_rfl) (by kernel_rfl) rfl, by
      refine (awake_any w (HT1.out.grown hm.grow)).mono ?_
      rintro e w' ⟨rfl, hg⟩
      exact ⟨_, rfl, hg, rfl⟩⟩) ?_
    refine Steps.val (G := Is (.bool true)) (lasts_is _) rfl (fun a w hm hd => ⟨wanted_plain rfl, _, ex_pick rfl (hd.at_ 28 rfl rfl rfl) (hd.at_ 29 rfl rfl rfl), rfl⟩) ?_
    refine Steps.val (G := Is (.bool true)) (lasts_is _) rfl (fun a w hm hd => ⟨wanted_plain rfl, _, ex_assign rfl, (hd.at_ 30 rfl rfl rfl)⟩) ?_
    intro a w2 hmid hall
    have h2 : a.eval (.tmp 2) = .bool true := hall 31 _ 2 rfl rfl
    have hdf : a.defers = [] := hmid.defers
    have hgr := hmid.grow
    clear hall hmid
    obtain ⟨tm, df⟩ := a
    simp only at hdf
    subst hdf
    go_wp2
    go_ret
    exact ⟨congrArg Ending.returned h2, HG1.out.trans hgr⟩

set_option maxHeartbeats 1000000 in
theorem digestPads_great (n : Int) (h0 : 1099511627776 < n) (w : World) (hT : Tab w) : Calls Tryd.prog 6 #[.int .i64 n] w (Awake w) := by
  have HT := Lib.hid hT
  have hb : decide (1099511627776 < n) = true := by simpa using h0
  clear hT
  go_enter Tryd.func6, Tryd.ntmps6
  go_wp2_with fail
  refine (awake_any _ HT.out).mono ?_
  rintro e w1 ⟨rfl, hg1⟩
  go_wp2
  go_ret
  exact ⟨rfl, hg1⟩
theorem digestPads_walk (n : Int) (w : World) (hT : Tab w) : Calls Tryd.prog 6 #[.int .i64 n] w (Awake w) := by
  by_cases h0 : n < 0
  · exact digestPads_neg n h0 w hT
  · by_cases h1 : 1099511627776 < n
    · exact digestPads_great n h1 w hT
    · have h := digestPads_nat n.toNat (by omega) w hT
      rw [show ((n.toNat : Nat) : Int) = n by omega] at h
      exact h
end Go.Proofs.YtibpjmbnllmahaaDoor
