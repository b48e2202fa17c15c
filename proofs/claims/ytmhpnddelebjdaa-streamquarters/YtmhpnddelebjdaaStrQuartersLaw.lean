/-
  The law StreamQuarters, walked.
-/
import Derived.Test.YtmhpnddelebjdaaStrAwake
import Derived.Test.YtmhpnddelebjdaaRcBlock
namespace Go.Proofs.Ytmhpnddelebjdaa
open Go.RowKit

theorem qAt_four (a b c d : W32) (q : Q4) (h : qr ⟨a, b, c, d⟩ = q) : qAt [a, b, c, d] 0 1 2 3 = [q.a, q.b, q.c, q.d] := by subst h; rfl

set_option maxHeartbeats 4000000 in
theorem streamQuarters_walk (a b c d : W32) (w : World) :
    Calls Try.prog 3 #[.int .u32 (a.toNat : Int), .int .u32 (b.toNat : Int), .int .u32 (c.toNat : Int), .int .u32 (d.toNat : Int)] w (Awake w) := by
  have ha := a.isLt
  have hb := b.isLt
  have hc := c.isLt
  have hd := d.isLt
  have HQ := Lib.hid (quarter_any ⟨a, b, c, d⟩ w)
  have HR := Lib.hid (rquarter_any (.slice (some ⟨w.heap.size, 0, none⟩) 4 4) [a, b, c, d] 0 1 2 3 ⟨by decide, by decide, by decide, by decide, by decide, by decide⟩ (by simp) (by simp) (by simp) (by simp) (by simp) (w.alloc (.cells #[.int .i64 (a.toNat : Int), .int .i64 (b.toNat : Int), .int .i64 (c.toNat : Int), .int .i64 (d.toNat : Int)] 3)) ((Row.new w 3 [.int .i64 (a.toNat : Int), .int .i64 (b.toNat : Int), .int .i64 (c.toNat : Int), .int .i64 (d.toNat : Int)]).rdp 4 rfl (by decide)))
  obtain ⟨q, hq⟩ : ∃ q, qr ⟨a, b, c, d⟩ = q := ⟨_, rfl⟩
  rw [hq] at HQ
  rw [qAt_four a b c d q hq] at HR
  have HGA := Lib.hid (grown_alloc (grown_refl w none) (.cells #[.int .i64 (a.toNat : Int), .int .i64 (b.toNat : Int), .int .i64 (c.toNat : Int), .int .i64 (d.toNat : Int)] 3))
  clear hq
  go_enter Try.func3, Try.ntmps3
  go_wp2_with fail
  refine HQ.out.mono ?_
  rintro e w1 ⟨rfl, hw1⟩
  rw [hw1]
  clear hw1 w1 HQ
  go_wp2_with fail
  refine HR.out.mono ?_
  rintro e w2 ⟨g, cap, rfl, hr, hg, _⟩
  have hl : (wn [q.a, q.b, q.c, q.d]).length = 4 := rfl
  rw [hl] at hr ⊢
  have c0 := add_zero' g 0 ▸ hr.i64 0 (by simp)
  have c1 := add_zero' g 1 ▸ hr.i64 1 (by simp)
  have c2 := add_zero' g 2 ▸ hr.i64 2 (by simp)
  have c3 := add_zero' g 3 ▸ hr.i64 3 (by simp)
  replace c0 : w2.cell? ⟨g, 0, none⟩ = some (.int .i64 (q.a.toNat : Int)) := c0
  replace c1 : w2.cell? ⟨g, 1, none⟩ = some (.int .i64 (q.b.toNat : Int)) := c1
  replace c2 : w2.cell? ⟨g, 2, none⟩ = some (.int .i64 (q.c.toNat : Int)) := c2
  replace c3 : w2.cell? ⟨g, 3, none⟩ = some (.int .i64 (q.d.toNat : Int)) := c3
  have b0 := q.a.isLt
  have b1 := q.b.isLt
  have b2 := q.c.isLt
  have b3 := q.d.isLt
  have HG2 := Lib.hid (HGA.out.trans hg)
  clear hr hg hl HR HGA
  generalize q.a.toNat = x0 at *
  generalize q.b.toNat = x1 at *
  generalize q.c.toNat = x2 at *
  generalize q.d.toNat = x3 at *
  go_wp2_with (go_at_call 12; refine (awake_any _).mono ?_; rintro e w5 ⟨rfl, hg5⟩)
  go_ret
  exact ⟨rfl, HG2.out.trans hg5⟩
end Go.Proofs.Ytmhpnddelebjdaa
