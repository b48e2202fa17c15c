/-
  The first ones of entries and files; the program's entries, as operations.
-/
import Derived.Test.YtiakkfcjdmecdaaDoorEnHas
namespace Go.Proofs.YtiakkfcjdmecdaaDoor
set_option maxRecDepth 1000000
open Go.RowKit

theorem RdE.take {w : World} {A : Option Addr} {n c k : Nat} {l : List En} (h : RdE w (.slice A n c) l) (hk : k ≤ l.length) : RdE w (.slice A k c) (l.take k) := by
  obtain ⟨hn, h1, h2⟩ := h.len
  obtain ⟨A', c', he, _, _, hc⟩ := h
  injection he with e1 e2 e3
  subst e1 e3
  have hl : (l.take k).length = k := by rw [List.length_take]; omega
  refine ⟨A, c, by rw [hl], by omega, h2, fun hne => ?_⟩
  obtain ⟨ad, ha, hcl⟩ := hc (fun e => hne (by rw [e]; simp))
  exact ⟨ad, ha, fun j d hd => hcl j d (by rw [List.getElem?_take] at hd; split at hd <;> first | exact hd | cases hd)⟩
theorem RdF.take {w : World} {A : Option Addr} {n c k : Nat} {l : List Fl} (h : RdF w (.slice A n c) l) (hk : k ≤ l.length) : RdF w (.slice A k c) (l.take k) := by
  obtain ⟨hn, h1, h2⟩ := h.len
  obtain ⟨A', c', he, _, _, hc⟩ := h
  injection he with e1 e2 e3
  subst e1 e3
  have hl : (l.take k).length = k := by rw [List.length_take]; omega
  refine ⟨A, c, by rw [hl], by omega, h2, fun hne => ?_⟩
  obtain ⟨ad, ha, hcl⟩ := hc (fun e => hne (by rw [e]; simp))
  exact ⟨ad, ha, fun j d hd => hcl j d (by rw [List.getElem?_take] at hd; split at hd <;> first | exact hd | cases hd)⟩
def IsF (l : List Fl) (v : Value) (w : World) : Prop := RdF w v l
section
variable {o : Oper} {a : Act} {w : World}
theorem exP_neq {x y : Operand} {d e : En} (h : o.op = .binOp .neq 38 x y 38) (hx : a.eval x = enV d) (hy : a.eval y = enV e) :
    (execOp a.eval o).run Tryd.prog w = .ok (.value (.bool (!eqE d e))) w := by
  unfold execOp
  simp only [h, hx, hy]
  simp only [go_sem, enV, enC, eqE]
  simp [go_sem, bts_list]
  repeat' split
  all_goals simp_all
theorem st_neP {x y : Operand} {d e : En} (h : o.op = .binOp .neq 38 x y 38) (hx : Is (enV d) (a.eval x) w) (hy : Is (enV e) (a.eval y) w) : Runs (Is (.bool (!eqE d e))) o a w := ⟨_, exP_neq h hx hy, rfl⟩
theorem st_idxP {x y : Operand} {ad : Addr} {n c i : Nat} (h : o.op = .indexAddr 25 x y) (hx : Is (.slice (some ad) n c) (a.eval x) w) (hy : Is (.int .i64 (i : Int)) (a.eval y) w) (hi : i < n) : Runs (Is (.pointer (some (ad.add (i * 7))))) o a w := by
  have hx' : a.eval x = .slice (some ad) n c := hx
  have hy' : a.eval y = .int .i64 (i : Int) := hy
  have hs : (sizeOf 38).run Tryd.prog w = .ok 7 w := by kernel_rfl
  refine ⟨_, ?_, rfl⟩
  simp only [execOp, h, hx', hy']
  simp [go_sem, hs, hi]
theorem st_loadP {x : Operand} {ad : Addr} {e : En} (h : o.op = .load 38 x) (hx : Is (.pointer (some ad)) (a.eval x) w) (hc : ∀ i u, (enC e)[i]? = some u → w.cell? (ad.add i) = some u) : Runs (Is (enV e)) o a w := by
  have hx' : a.eval x = .pointer (some ad) := hx
  have hrun := run_loadEn 38 (.inl rfl) w ad e hc
  refine ⟨_, ?_, rfl⟩
  simp only [execOp, h, hx', Sem.run_bind, hrun, Result.andThen_ok, Sem.run_pure]
theorem st_takeP {x y : Operand} {l : List En} {p : Int} (k : Nat) (h : o.op = .slice 25 x none (some y) none) (hx : IsE l (a.eval x) w) (hy : Is (.int .i64 p) (a.eval y) w) (e : p = (k : Int)) (hk : k ≤ l.length) : Runs (IsE (l.take k)) o a w := by
  obtain ⟨A, c, hA⟩ := RdE.form hx
  have hx' : RdE w (a.eval x) l := hx
  rw [hA] at hx'
  have hy' : a.eval y = .int .i64 p := hy
  subst e
  obtain ⟨_, hlc, _⟩ := hx'.len
  have h1 : (k : Int) ≤ (c : Int) := by omega
  have ht := hx'.take hk
  cases A with
  | some ad =>
    refine ⟨_, ?_, ht⟩
    simp only [execOp, h, hA, hy', Option.map_some, Option.map_none]
    simp [go_sem, h1]
  | none =>
    refine ⟨_, ?_, ht⟩
    simp only [execOp, h, hA, hy', Option.map_some, Option.map_none]
    simp [go_sem, h1]
theorem st_takeR {x y : Operand} {l : List En} {p : Int} (k : Nat) (h : o.op = .slice 29 x none (some y) none) (hx : IsE l (a.eval x) w) (hy : Is (.int .i64 p) (a.eval y) w) (e : p = (k : Int)) (hk : k ≤ l.length) : Runs (IsE (l.take k)) o a w := by
  obtain ⟨A, c, hA⟩ := RdE.form hx
  have hx' : RdE w (a.eval x) l := hx
  rw [hA] at hx'
  have hy' : a.eval y = .int .i64 p := hy
  subst e
  obtain ⟨_, hlc, _⟩ := hx'.len
  have h1 : (k : Int) ≤ (c : Int) := by omega
  have ht := hx'.take hk
  cases A with
  | some ad =>
    refine ⟨_, ?_, ht⟩
    simp only [execOp, h, hA, hy', Option.map_some, Option.map_none]
    simp [go_sem, h1]
  | none =>
    refine ⟨_, ?_, ht⟩
    simp only [execOp, h, hA, hy', Option.map_some, Option.map_none]
    simp [go_sem, h1]
theorem st_takeF {x y : Operand} {l : List Fl} {p : Int} (k : Nat) (h : o.op = .slice 22 x none (some y) none) (hx : IsF l (a.eval x) w) (hy : Is (.int .i64 p) (a.eval y) w) (e : p = (k : Int)) (hk : k ≤ l.length) : Runs (IsF (l.take k)) o a w := by
  obtain ⟨A, c, hA⟩ := RdF.form hx
  have hx' : RdF w (a.eval x) l := hx
  rw [hA] at hx'
  have hy' : a.eval y = .int .i64 p := hy
  subst e
  obtain ⟨_, hlc, _⟩ := hx'.len
  have h1 : (k : Int) ≤ (c : Int) := by omega
  have ht := hx'.take hk
  cases A with
  | some ad =>
    refine ⟨_, ?_, ht⟩
    simp only [execOp, h, hA, hy', Option.map_some, Option.map_none]
    simp [go_sem, h1]
  | none =>
    refine ⟨_, ?_, ht⟩
    simp only [execOp, h, hA, hy', Option.map_some, Option.map_none]
    simp [go_sem, h1]
theorem st_lenP {x : Operand} {A : Option Addr} {n c : Nat} (h : o.op = .call { callee := .builtin .len, args := #[x], argTypes := #[25] }) (hx : Is (.slice A n c) (a.eval x) w) : Runs (Is (.int .i64 (n : Int))) o a w := by
  have hx' : a.eval x = .slice A n c := hx
  refine ⟨_, ?_, rfl⟩
  unfold execOp
  simp only [h, resolve, invoke, builtin, List.map_toArray, List.map_cons, List.map_nil, hx']
  simp [go_sem]
end
theorem wpList_runsE {ops : Array Oper} {rest : List Oper} {o : Oper} {a : Act} {w : World} {Q : Exit → Act → World → Prop} {G : Value → World → Prop} (hw : Region.wanted o (yielded ops a.tmps) = true) (hr : Runs G o a w)
    (h : ∀ v, G v w → wpList Tryd.prog ops Q rest (a.put o.dst v) w) : wpList Tryd.prog ops Q (o :: rest) a w := by
  obtain ⟨v, hv, hG⟩ := hr
  refine BigFrame.wpList_want hw fun _ hK => ?_
  unfold Oper.wp
  rw [hv, Oper.upon_value]
  exact hK _ _ (h v hG)
end Go.Proofs.YtiakkfcjdmecdaaDoor
