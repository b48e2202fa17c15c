/-
  slices.Clone of bytes, coder's Begin, Chances, and a Writer's End over this program.
-/
import Derived.Test.YtohndlfekecfoaaCodTree
import Derived.Lib.SliceRun
namespace Go.Proofs.Ytohndlfekecfoaa
set_option maxRecDepth 1000000
open Go.RowKit

set_option maxHeartbeats 1000000 in
theorem clone_bytes (v : Value) (b : List UInt8) (w : World) (hv : Rd w v (bytesV b)) (hl : b.length ≤ 1000000000) :
    Calls Try.prog 29 #[v] w (OutO w b) := by
  have hv0 := hv
  obtain ⟨A, c, rfl, h1, h2, h3⟩ := hv
  cases A with
  | none =>
    have hl0 : b = [] := by
      rcases b with _ | ⟨x, l⟩
      · rfl
      · obtain ⟨ad, h, _⟩ := h3 (by simp [bytesV]); cases h
    subst hl0
    have hnil := fun W => Lib.run_eql_slice_nil (P := Try.prog) W 28 5 none 0 c 0 0 Try.underlying28
    show Calls Try.prog 29 #[.slice none 0 c] w _
    clear h1 h2 h3 hv0
    go_enter Try.func29, Try.ntmps29
    go_wp2
    go_ret
    exact ⟨_, rfl, ⟨rfl, .inl ⟨rfl, rfl⟩⟩, grown_refl _ _⟩
  | some ad =>
    have hnil := fun W => Lib.run_eql_slice_nil (P := Try.prog) W 28 5 (some ad) (bytesV b).length c 0 0 Try.underlying28
    clear h3 h1 h2
    have hn : (bytesV b).length = b.length := bytesV_len b
    generalize (bytesV b).length = n at *
    have HN := Lib.hid hn
    clear hn
    go_enter Try.func29, Try.ntmps29
    go_wp2_with (at_builtin; refine wpList_append_bytes _ rfl _ _ rfl w.heap.size _ 0 [] rfl ?_ _ b rfl ?_ ?_ ?_ ?_)
    · exact World.ownsRow_made _ _ _ (Nat.le_refl _) (Nat.zero_le _) rfl
    · exact hv0.grown0 (grown_alloc (grown_refl _ _) _)
    · omega
    · simp
    · intro v' w' ho hg hat
      have HO := Lib.hid ho
      have HG := Lib.hid hg
      clear ho hg hat
      go_wp2
      go_ret
      have ho := HO.out
      try simp only [Nat.zero_add, List.nil_append] at ho
      refine ⟨_, rfl, ho, grown_new (grown_alloc (grown_refl _ _) _) HG.out ?_⟩
      intro b hb
      simp [Value.ownBlock] at hb
      omega

/-- What Begin answers. -/
def BegOut (w : World) (e : Ending) (w' : World) : Prop := ∃ g, e = .returned (.pointer (some ⟨g, 0, none⟩)) ∧ Wt w' g none beginS ∧ w.heap.size ≤ g ∧ w.grownBy w' none
set_option maxHeartbeats 400000 in
theorem begin_any (w : World) : Calls Try.prog 5 #[] w (BegOut w) := by
  go_enter Try.func5, Try.ntmps5
  go_wp2
  go_ret
  exact ⟨w.heap.size, rfl, ⟨_, Row.new w _ _, ⟨rfl, .inl ⟨rfl, rfl⟩⟩, rfl, by simp⟩, Nat.le_refl _, grown_alloc (grown_refl _ _) _⟩

/-- What Chances answers. -/
def ChOut (w : World) (n : Nat) (e : Ending) (w' : World) : Prop := ∃ g t, e = .returned (.slice (some ⟨g, 0, none⟩) n n) ∧ Row w' g t (chV (List.replicate n 1024)) ∧ w.heap.size ≤ g ∧ w.grownBy w' none
theorem okl_first (n : Nat) : Okl (List.replicate n 1024) := by
  intro c hc
  rw [List.eq_of_mem_replicate hc]
  exact ⟨by decide, by decide⟩
theorem infoCh : ∃ i, Try.prog.info? 40 = some i ∧ i.zero = some (.agg #[.int .i16 0]) ∧ i.size = 1 ∧ i.bytes ≤ 8 := by
  have h : (Try.prog.info? 40).map (fun i => (i.zero, i.size, decide (i.bytes ≤ 8))) = some (some (.agg #[.int .i16 0]), 1, true) := by kernel_rfl
  obtain ⟨i, hi, he⟩ := Option.map_eq_some_iff.1 h
  simp only [Prod.mk.injEq, decide_eq_true_eq] at he
  exact ⟨i, hi, he.1, he.2.1, he.2.2⟩
theorem run_make_ch (w : World) (n : Nat) (hc : n ≤ 131072) : (Instr.makeSlice 26 (.int .i64 (n : Int)) (.int .i64 (n : Int))).run Try.prog w = .ok (.slice (some ⟨w.heap.size, 0, none⟩) n n) (w.alloc (.cells (chV (List.replicate n 1024)).toArray 40)) := by
  obtain ⟨i, hi, hz, hs1, hb⟩ := infoCh
  have hb2 : i.bytes * n ≤ 8 * n := Nat.mul_le_mul_right _ hb
  have hr := run_make (P := Try.prog) w 26 40 i _ Try.underlying26 hi hz .i64 .i64 n n (by omega) (by omega) (by rw [← Int.natCast_mul]; omega) (by omega)
  simp only [Int.toNat_natCast, hs1, Nat.mul_one] at hr
  have e : madeCells (Value.agg #[.int .i16 0]).cells n = (chV (List.replicate n 1024)).toArray := by
    have h1 := toList_madeCells_one (.int .i16 0) n
    rw [show (Value.agg #[.int IntKind.i16 0]).cells = #[.int .i16 0] from rfl]
    apply Array.ext'
    rw [h1]
    simp [chV]
  rw [e] at hr
  exact hr
theorem wpList_runs {P : Program} {ops : Array Oper} {rest : List Oper} {o : Oper} {a : Act} {w w' : World} {Q : Exit → Act → World → Prop} {v : Value} (hgd : o.guard = none) (hr : (execOp a.eval o).run P w = .ok (.value v) w') (h : wpList P ops Q rest (a.put o.dst v) w') : wpList P ops Q (o :: rest) a w :=
  wpList_plain hgd fun _ hK => by
    unfold Oper.wp
    rw [hr, Oper.upon_value]
    exact hK _ _ h
theorem ex_max0 {o : Oper} {a : Act} {w : World} {x : Operand} {q : Int} (h : o.op = .call { callee := .builtin .max, args := #[x, .const (.int .i64 0)], argTypes := #[3, 3] }) (hx : a.eval x = .int .i64 q) : (execOp a.eval o).run Try.prog w = .ok (.value (.int .i64 (max q 0))) w := by
  have hc : a.eval (.const (.int .i64 0)) = .int .i64 0 := rfl
  unfold execOp
  simp only [h, resolve, invoke, builtin, List.map_toArray, List.map_cons, List.map_nil, hx, hc]
  simp [go_sem]
  rw [Int.max_def]
  split <;> split <;> first | rfl | omega
theorem ex_minc {o : Oper} {a : Act} {w : World} {x : Operand} {q : Int} (d : Int) (h : o.op = .call { callee := .builtin .min, args := #[x, .const (.int .i64 d)], argTypes := #[3, 3] }) (hx : a.eval x = .int .i64 q) : (execOp a.eval o).run Try.prog w = .ok (.value (.int .i64 (min q d))) w := by
  have hc : a.eval (.const (.int .i64 d)) = .int .i64 d := rfl
  unfold execOp
  simp only [h, resolve, invoke, builtin, List.map_toArray, List.map_cons, List.map_nil, hx, hc]
  simp [go_sem]
  rw [Int.min_def]
  split <;> split <;> first | rfl | omega
set_option maxHeartbeats 400000 in
theorem chances_any (q : Int) (n : Nat) (hq : min (max q 0) 131072 = (n : Int)) (w : World) : Calls Try.prog 6 #[.int .i64 q] w (ChOut w n) := by
  have HQ := Lib.hid hq
  have HM := Lib.hid (run_make_ch w n (by omega))
  have HR := Lib.hid (Row.new w 40 (chV (List.replicate n 1024)))
  obtain ⟨C, hC⟩ : ∃ C, C = chV (List.replicate n 1024) := ⟨_, rfl⟩
  rw [← hC] at HM HR
  have HC := Lib.hid hC
  clear hC hq
  go_enter Try.func6, Try.ntmps6
  go_wp2
  all_goals rename_i hcase
  · obtain rfl : n = 0 := by have := HQ.out; omega
    have hm : (Instr.makeSlice 26 (.int .i64 0) (.int .i64 0)).run Try.prog w = _ := HM.out
    rw [hm]
    clear hm
    go_wp2
    go_ret
    exact ⟨_, _, rfl, by rw [← HC.out]; exact HR.out, Nat.le_refl _, grown_alloc (grown_refl _ _) _⟩
  · obtain rfl : n = 131072 := by have := HQ.out; omega
    have hm : (Instr.makeSlice 26 (.int .i64 131072) (.int .i64 131072)).run Try.prog w = _ := HM.out
    rw [hm]
    clear hm
    go_wp2
    go_ret
    exact ⟨_, _, rfl, by rw [← HC.out]; exact HR.out, Nat.le_refl _, grown_alloc (grown_refl _ _) _⟩
  · obtain rfl : q = (n : Int) := by have := HQ.out; omega
    rw [HM.out]
    go_wp2
    go_ret
    exact ⟨_, _, rfl, by rw [← HC.out]; exact HR.out, Nat.le_refl _, grown_alloc (grown_refl _ _) _⟩

/-- So many bytes told. -/
def tellN : Nat → Cst → Cst
  | 0, s => s
  | k + 1, s => tellS (tellN k s)
theorem tellN_width : ∀ (k : Nat) (s : Cst), (tellN k s).width = s.width
  | 0, _ => rfl
  | k + 1, s => tellN_width k s
theorem tellN_low : ∀ (k : Nat) (s : Cst), s.low < 4294967296 → (tellN k s).low < 4294967296
  | 0, _, h => h
  | k + 1, s, h => by
    show (tellN k s).low % 16777216 * 256 < _
    omega
theorem tellN_len : ∀ (k : Nat) (s : Cst), (tellN k s).out.length = s.out.length + k
  | 0, _ => rfl
  | k + 1, s => by
    show ((tellN k s).out ++ [_]).length = _
    rw [List.length_append, tellN_len k s]
    rfl
theorem eT (n : Nat) (_ : n < 4294967296) : n % 16777216 * 256 / 16777216 = n / 65536 % 256 := by omega
theorem eU (n : Nat) (_ : n < 4294967296) : n % 16777216 * 256 / 65536 % 256 = n / 256 % 256 := by omega
theorem eV (n : Nat) (_ : n < 4294967296) : n % 16777216 * 256 / 256 % 256 = n % 256 := by omega
theorem eL (n : Nat) : n % 16777216 * 256 < 4294967296 := by omega
theorem tells_end (s : Cst) (h : s.low < 4294967296) : (tellN 4 s).out = endS s ∧ (tellN 4 s).low = 0 := by
  have e1 := eT _ h
  have e2 : s.low % 16777216 * 256 % 16777216 * 256 / 16777216 = s.low / 256 % 256 := (eT _ (eL _)).trans (eU _ h)
  have e3 : s.low % 16777216 * 256 % 16777216 * 256 % 16777216 * 256 / 16777216 = s.low % 256 := (eT _ (eL _)).trans ((eU _ (eL _)).trans (eV _ h))
  refine ⟨?_, ?_⟩
  · simp only [tellN, tellS, endS, lowB, e1, e2, e3, List.append_assoc, List.cons_append, List.nil_append]
  · simp only [tellN, tellS]
    omega
theorem endS_len (s : Cst) : (endS s).length = s.out.length + 4 := by simp [endS, lowB]

/-- What End answers. -/
def EOut (g : Nat) (vb : Option Nat) (b : List UInt8) (w : World) (e : Ending) (w' : World) : Prop :=
  ∃ u, e = .returned u ∧ w'.ownsRow w.heap.size 5 1 u b.length (bytesV b) ∧ ∃ vb', Wt w' g vb' ⟨b, 0, 0⟩ ∧ Wn [g] w vb w' vb'
set_option maxHeartbeats 1000000 in
theorem end_done (g : Nat) (vb : Option Nat) (s : Cst) (w : World) (h : Wt w g vb s) (hs : s.width = 0) (hl : s.out.length ≤ 900000000) :
    Calls Try.prog 15 #[.pointer (some ⟨g, 0, none⟩)] w (OutO w s.out) := by
  have HBG := Lib.hid (begun_at g vb s w h)
  rw [hs] at HBG
  obtain ⟨v, hrow, hown, hvb, hne⟩ := h
  have r0 := hrow.cell (j := 0) rfl
  obtain ⟨A, c, rfl⟩ := own_form hown
  have HC := Lib.hid (clone_bytes _ _ w (Rd.of_own hown) (by omega))
  clear hrow hown hvb hne hs hl
  go_enter Try.func15, Try.ntmps15
  go_wp2_with fail
  refine HBG.out.mono ?_
  rintro e w1 ⟨rfl, hw1⟩
  obtain rfl := hw1.symm
  go_wp2_with fail
  refine HC.out.mono ?_
  rintro e w1 ⟨u, rfl, ho, hg⟩
  have HO := Lib.hid (And.intro ho hg)
  clear ho hg
  go_wp2
  go_ret
  exact ⟨_, rfl, HO.out.1, HO.out.2⟩
set_option maxHeartbeats 4000000 in
theorem end_at (g : Nat) (vb : Option Nat) (s : Cst) (w : World) (h : Wt w g vb s) (hs : Okc s) (hl : s.out.length ≤ 900000000) :
    Calls Try.prog 15 #[.pointer (some ⟨g, 0, none⟩)] w (EOut g vb (endS s) w) := by
  have HBG := Lib.hid (begun_at g vb s w h)
  rw [show decide (0 < s.width) = true by have := hs.wide; simp; omega] at HBG
  have HW := Lib.hid h
  have HS := Lib.hid hs
  have HL := Lib.hid hl
  clear h hs hl
  go_enter Try.func15, Try.ntmps15
  go_wp2_with fail
  refine HBG.out.mono ?_
  rintro e w1 ⟨rfl, hw1⟩
  obtain rfl := hw1.symm
  clear HBG
  go_wp2
  go_loopw [7] (fun i W => ∃ (k : Nat) (vb' : Option Nat), k ≤ 4 ∧ i = .int .i64 k ∧ Wt W g vb' (tellN k s) ∧ Wn [g] w vb W vb') (fun i _ => 4 - (intOf i).toNat)
  case atStart => exact ⟨0, vb, Nat.zero_le _, rfl, HW.out, Wn.refl _ _ _⟩
  case round =>
    obtain ⟨k, vb', hk, rfl, hwt, hwn⟩ := hrel
    by_cases hlt : k < 4
    · have hd : decide ((k : Int) < 4) = true := by simp; omega
      have HN := Lib.hid hwn
      have HT := Lib.hid (tell_at g vb' (tellN k s) wr hwt (tellN_low k s HS.out.low) (by rw [tellN_len]; have := HL.out; omega))
      clear hwt hwn
      go_wp2_with fail
      refine HT.out.mono ?_
      rintro e w2 ⟨rfl, vb2, ht2, hn2⟩
      have HE := Lib.hid (And.intro ht2 (HN.out.trans hn2))
      clear ht2 hn2 HT
      go_wp2
      go_roundw
      case rel => exact ⟨k + 1, vb2, by omega, by go_num, HE.out.1, HE.out.2⟩
      case measure => simp only [intOf]; omega
    · obtain rfl : k = 4 := by omega
      have hwt' : Wt wr g vb' ⟨endS s, 0, s.width⟩ := by
        have h1 := tells_end s HS.out.low
        have h2 := tellN_width 4 s
        rw [← h1.1, ← h2]
        have h3 : tellN 4 s = ⟨(tellN 4 s).out, (tellN 4 s).low, (tellN 4 s).width⟩ := rfl
        rw [h1.2] at h3
        rw [← h3]
        exact hwt
      have HT := Lib.hid hwt'
      have HN := Lib.hid hwn
      obtain ⟨v, hrow, hown, hvb, hne⟩ := hwt'
      have r2 := hrow.cell (j := 2) rfl
      have f2 := hrow.frozen 2
      obtain ⟨A, c, rfl⟩ := own_form hown
      have R1 := hrow.set 2 (.int .u32 0)
      have G1 := grown_set wr g 2 (.int .u32 0)
      have T1 := Lib.hid (HT.out.set (low := 0) (width := 0) _ R1 hrow G1)
      have N1 := Lib.hid (HN.out.grown G1 (fun b e => by cases e; exact .inl (List.mem_singleton.2 rfl)))
      have c0 := R1.cell (j := 0) rfl
      have HCL := Lib.hid (clone_bytes _ (endS s) _ (Rd.of_own (own_at2 hown (fun b hb => G1.block b (own_block_lt hown hb) (fun e => hne (by rw [← hvb, hb, e]))))) (by rw [endS_len]; have := HL.out; omega))
      clear hwt hwn hrow hown hvb hne R1 G1 hk hlt
      generalize hW1 : wr.setCell ⟨g, 2, none⟩ (.int .u32 0) = W1 at *
      go_wp2_with fail
      refine HCL.out.mono ?_
      rintro e w3 ⟨u, rfl, ho, hg⟩
      have HO := Lib.hid (And.intro ho hg)
      clear ho hg
      go_wp2
      go_ret
      refine ⟨_, rfl, ?_, vb', T1.out.grown0 HO.out.2, N1.out.grown0 HO.out.2⟩
      have h1 := HO.out.1
      refine ⟨h1.1, ?_⟩
      rcases h1.2 with h2 | ⟨b, cap, cur, h3, h4, h5⟩
      · exact .inl h2
      · exact .inr ⟨b, cap, cur, h3, Nat.le_trans N1.out.size h4, h5⟩
end Go.Proofs.Ytohndlfekecfoaa
