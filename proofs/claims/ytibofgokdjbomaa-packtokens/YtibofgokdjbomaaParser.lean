/-
  match's parser in memory, and lastOf.
-/
import Derived.Test.YtibofgokdjbomaaAlike
import Derived.Test.YtibofgokdjbomaaMapTri
import Derived.Deep.QuietTactic
import Derived.BigQuiet
namespace Go.Proofs.Ytibofgokdjbomaa
set_option maxRecDepth 1000000
open Go.RowKit

/-- A call that only reads. -/
def Seen (v : Value) (w : World) (e : Ending) (w' : World) : Prop := e = .returned v ∧ ∃ m, w' = w.drewN m
theorem Seen.val {v : Value} {w w' : World} {e : Ending} (h : Seen v w e w') : Val v w e w' := by
  obtain ⟨h1, m, rfl⟩ := h
  exact ⟨h1, grown_drewN (grown_refl _ _) _⟩

def lastM (b : List UInt8) (p : Nat) (x : Tri) : Option Int := if 0 ≤ lastP b x p then some (lastP b x p) else none
theorem lastM_get (b : List UInt8) (p : Nat) (x : Tri) : (lastM b p x).isSome = decide (0 ≤ lastP b x p) ∧ (0 ≤ lastP b x p → (lastM b p x).getD 0 = lastP b x p) := by
  unfold lastM
  split <;> simp_all
  omega

def intCs (l : List Int) : List Value := l.map fun z => .int .i64 z

/-- The parser that stands at p: gp is its block, gb that of what was ahead, gm the map's. -/
structure Prs (w : World) (gp gb gm : Nat) (A : Option Addr) (c : Nat) (b : List UInt8) (win : Int) (p : Nat) : Prop where
  row : Row w gp 114 [.slice A b.length c, .int .i64 win, .int .i64 (p : Int), .map (some gm), .slice (some ⟨gb, 0, none⟩) b.length b.length]
  rd : Rd w (.slice A b.length c) (bytesV b)
  bef : ∃ l : List Int, Row w gb 3 (intCs l) ∧ l.length = b.length ∧ ∀ q, q < p → l[q]? = some (prevP b q)
  map : Mp w gm p (lastM b p)
  ne : gp ≠ gb ∧ gp ≠ gm ∧ gb ≠ gm
  own : ∀ g, (Value.slice A b.length c).ownBlock = some g → g ≠ gp ∧ g ≠ gb ∧ g ≠ gm
  le : p ≤ b.length

theorem Prs.grown0 {w w' : World} {gp gb gm : Nat} {A : Option Addr} {c : Nat} {b : List UInt8} {win : Int} {p : Nat} (h : Prs w gp gb gm A c b win p) (hg : w.grownBy w' none) : Prs w' gp gb gm A c b win p := by
  obtain ⟨h1, h2, ⟨l, h3, h4, h5⟩, h6, h7, h8, h9⟩ := h
  exact ⟨h1.grown0 hg, h2.grown0 hg, ⟨l, h3.grown0 hg, h4, h5⟩, h6.grown0 hg, h7, h8, h9⟩

theorem run_arrayAt (ad : Addr) (n c : Nat) (w : World) (h : 3 ≤ n) : (Instr.arrayAt 135 (.slice (some ad) n c)).run Try.prog w = .ok (.pointer (some ad)) w := by
  have h' : ¬ n < 3 := by omega
  simp [Instr.arrayAt, run_underlying Try.underlying135, h']

set_option maxHeartbeats 4000000 in
theorem lastOf_any (gp gb gm : Nat) (A : Option Addr) (c : Nat) (b : List UInt8) (win : Int) (p : Nat) (v : Value) (l : List UInt8) (w : World) (h : Prs w gp gb gm A c b win p) (hv : Rd w v (bytesV l)) :
    Calls Try.prog 87 #[.pointer (some ⟨gp, 0, none⟩), v] w (Seen (.int .i64 (prevOf b p (first3 l))) w) := by
  obtain ⟨A1, c1, rfl⟩ := hv.form
  simp only [bytesV_len] at hv ⊢
  by_cases hl : l.length < 3
  · rw [first3_none hl]
    have hd : decide ((l.length : Int) < 3) = true := by simp; omega
    clear hv h hl
    generalize l.length = n at *
    go_enter Try.func87, Try.ntmps87
    go_wp2
    go_ret
    exact ⟨rfl, 0, rfl⟩
  · have hd : decide ((l.length : Int) < 3) = false := by simp; omega
    obtain ⟨x, y, z, h3⟩ := first3_some (l := l) (by omega)
    rw [h3]
    have h3' := first3_at h3
    obtain ⟨ad, rfl, hc⟩ := hv.cells (by intro e; have := congrArg List.length e; rw [bytesV_len] at this; simp at this; subst this; simp at hl)
    have k0 := hc 0 (byteV x) (by simp [bytesV, h3'.1])
    have k1 := hc 1 (byteV y) (by simp [bytesV, h3'.2.1])
    have k2 := hc 2 (byteV z) (by simp [bytesV, h3'.2.2.1])
    rw [show ad.add 0 = ad by unfold Addr.add; simp] at k0
    rw [show ad.add 1 = ⟨ad.block, ad.off + 1, none⟩ by unfold Addr.add; simp] at k1
    rw [show ad.add 2 = ⟨ad.block, ad.off + 2, none⟩ by unfold Addr.add; simp] at k2
    unfold byteV at k0 k1 k2
    have r3 := h.row.cell (j := 3) rfl
    have hlk := fun n => (h.map.grown0 (grown_drewN (grown_refl w none) n)).look (x, y, z)
    unfold triV at hlk
    simp only at hlk
    obtain ⟨e1, e2⟩ := lastM_get b p (x, y, z)
    rw [e1] at hlk
    have harr := fun w => run_arrayAt ad l.length c1 w (by omega)
    clear h hv hc h3 h3' e1
    generalize l.length = n at *
    show Calls _ _ _ _ (Seen (.int .i64 (lastP b (x, y, z) p)) w)
    have hlp := lastP_lt b (x, y, z) p
    by_cases hp : 0 ≤ lastP b (x, y, z) p
    · rw [e2 hp] at hlk
      have hpd : decide (0 ≤ lastP b (x, y, z) p) = true := by simpa using hp
      rw [hpd] at hlk
      clear hpd e2 hp hlp
      go_enter Try.func87, Try.ntmps87
      go_wp2
      go_quiet (fail)
      go_wp2
      go_ret
      exact ⟨rfl, _, rfl⟩
    · have hpd : decide (0 ≤ lastP b (x, y, z) p) = false := by simpa using hp
      rw [hpd] at hlk
      have hpe : lastP b (x, y, z) p = -1 := by omega
      rw [hpe]
      clear hpd e2 hp hlp
      generalize (lastM b p (x, y, z)).getD 0 = u at *
      go_enter Try.func87, Try.ntmps87
      go_wp2
      go_quiet (fail)
      go_wp2
      go_ret
      exact ⟨rfl, _, rfl⟩
end Go.Proofs.Ytibofgokdjbomaa
