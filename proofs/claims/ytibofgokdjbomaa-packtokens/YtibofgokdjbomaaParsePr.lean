/-
  match's Parse over this program.
-/
import Derived.Test.YtibofgokdjbomaaTokenPr
import Derived.Deep.OwnRows
namespace Go.Proofs.Ytibofgokdjbomaa
set_option maxRecDepth 1000000
open Go.RowKit

/-- What Parse answers. -/
def ParseOut (w : World) (l : List Tok) (e : Ending) (w' : World) : Prop := ∃ v, e = .returned v ∧ RdT w' v l ∧ w.grownBy w' none

theorem tokAt_bound (b : List UInt8) (win p : Nat) (h : p < b.length) : ∃ n : Nat, tsize (tokAt b win p) = (n : Int) ∧ 1 ≤ n ∧ p + n ≤ b.length := by
  have h1 := best_len b p (min win p)
  rw [nextOf_len] at h1
  refine ⟨(tsize (tokAt b win p)).toNat, ?_, ?_, ?_⟩ <;> unfold tsize tokAt <;> omega
theorem parseFrom_done (b : List UInt8) (win f p : Nat) (h : b.length ≤ p) : parseFrom b win f p = [] := by
  cases f with
  | zero => rfl
  | succ f => rw [parseFrom, if_neg (by omega)]

theorem Prs.turned2 {w w' : World} {gp gb gm g : Nat} {A : Option Addr} {c : Nat} {b : List UInt8} {win : Int} {p : Nat} (h : Prs w gp gb gm A c b win p) (hg : w.grownBy w' (some g)) (n1 : g ≠ gp) (n2 : g ≠ gb) (n3 : g ≠ gm) (n4 : ∀ k, (Value.slice A b.length c).ownBlock = some k → k ≠ g) : Prs w' gp gb gm A c b win p := by
  obtain ⟨h1, h2, ⟨l, h3, h4, h5⟩, h6, h7, h8, h9⟩ := h
  exact ⟨h1.grown hg (by simp; exact fun e => n1 e.symm), h2.grown hg (fun k e => by have := n4 k e; simp; omega), ⟨l, h3.grown hg (by simp; exact fun e => n2 e.symm), h4, h5⟩, h6.kept hg (by simp; exact fun e => n3 e.symm), h7, h8, h9⟩
def sliceLen : Value → Nat
  | .slice _ m _ => m
  | _ => 0

/-- Ahead of a round. -/
structure ParI (w W : World) (gp gb gm : Nat) (A : Option Addr) (c : Nat) (b : List UInt8) (win p : Nat) (v : Value) (l : List Tok) : Prop where
  prs : Prs W gp gb gm A c b (win : Int) p
  own : W.ownsRow w.heap.size 37 3 v l.length (tokCs l)
  grow : w.grownBy W none
  ne : ∀ k, v.ownBlock = some k → k ≠ gp ∧ k ≠ gb ∧ k ≠ gm
  new : w.heap.size ≤ gp ∧ w.heap.size ≤ gb ∧ w.heap.size ≤ gm
  eq : ∃ f, parseFrom b win b.length 0 = l ++ parseFrom b win f p ∧ b.length ≤ p + f
  len : l.length ≤ p ∧ sliceLen v = l.length

theorem own_sliceLen {w : World} {base : Nat} {e : TypeId} {size n : Nat} {v : Value} {xs : List Value} (h : w.ownsRow base e size v n xs) : sliceLen v = n := by
  rcases h.2 with ⟨rfl, h0⟩ | ⟨g, cap, cur, rfl, _⟩
  · rw [h0]; rfl
  · rfl

theorem madeInts (n : Nat) : madeCells #[Value.int .i64 0] n = (intCs (List.replicate n 0)).toArray := by
  apply Array.ext
  · rw [size_madeCells]; simp [intCs]
  · intro i h1 h2
    simp [madeCells, intCs, Nat.mod_one]

set_option maxHeartbeats 2000000 in
theorem parse_any (v : Value) (b : List UInt8) (win : Int) (w : World) (hv : Rd w v (bytesV b)) (hsm : b.length ≤ 100000) :
    Calls Try.prog 35 #[v, .int .i64 win] w (ParseOut w (parse b win)) := by
  obtain ⟨A, c, rfl⟩ := hv.form
  simp only [bytesV_len] at hv ⊢
  have HW := Lib.hid (fun w => rightWindow_any win w)
  have HV := Lib.hid hv
  have hmm := @run_makeMap Try.prog
  have hms := fun w => run_make_row' (P := Try.prog) 112 3 (.int .i64 0) 8 Try.underlying112 (by kernel_rfl) rfl .i64 .i64 b.length (by omega) (by omega) w
  simp only [madeInts] at hms
  clear hv
  by_cases hr : 1 ≤ win ∧ win ≤ 32768
  · have hrb : (decide (1 ≤ win) && decide (win ≤ 32768)) = true := by simp; omega
    rw [hrb] at HW
    have hpe : parse b win = parseFrom b win.toNat b.length 0 := by rw [parse, if_pos hr]
    rw [hpe]
    obtain ⟨W, rfl⟩ : ∃ W : Nat, win = (W : Int) := ⟨win.toNat, by omega⟩
    have HWB := Lib.hid (show 1 ≤ W ∧ W ≤ 32768 by omega)
    simp only [Int.toNat_natCast]
    clear hr hrb hpe
    go_enter Try.func35, Try.ntmps35
    go_wp2_with fail
    refine (HW.out _).mono ?_
    rintro e w1 ⟨rfl, hg1⟩
    have HG1 := Lib.hid hg1
    clear hg1 HW
    go_wp2
    generalize hG : w1.heap.size = gm at *
    have hw3 : w1.grownBy (((w1.alloc (.map #[] 0)).alloc (.cells (intCs (List.replicate b.length 0)).toArray 3)).alloc (.cells #[.slice A b.length c, .int .i64 (W : Int), .int .i64 0, .map (some gm), .slice (some ⟨gm + 1, 0, none⟩) b.length b.length] 114)) none :=
      grown_alloc (grown_alloc (grown_alloc (grown_refl _ _) _) _) _
    have hrow : Row (((w1.alloc (.map #[] 0)).alloc (.cells (intCs (List.replicate b.length 0)).toArray 3)).alloc (.cells #[.slice A b.length c, .int .i64 (W : Int), .int .i64 0, .map (some gm), .slice (some ⟨gm + 1, 0, none⟩) b.length b.length] 114)) (gm + 1 + 1) 114 [.slice A b.length c, .int .i64 (W : Int), .int .i64 0, .map (some gm), .slice (some ⟨gm + 1, 0, none⟩) b.length b.length] :=
      Row.newAt _ _ _ (by simp [hG])
    have hrb : Row (((w1.alloc (.map #[] 0)).alloc (.cells (intCs (List.replicate b.length 0)).toArray 3)).alloc (.cells #[.slice A b.length c, .int .i64 (W : Int), .int .i64 0, .map (some gm), .slice (some ⟨gm + 1, 0, none⟩) b.length b.length] 114)) (gm + 1) 3 (intCs (List.replicate b.length 0)) :=
      (Row.newAt _ _ _ (by simp [hG])).alloc _
    have hmp : Mp (((w1.alloc (.map #[] 0)).alloc (.cells (intCs (List.replicate b.length 0)).toArray 3)).alloc (.cells #[.slice A b.length c, .int .i64 (W : Int), .int .i64 0, .map (some gm), .slice (some ⟨gm + 1, 0, none⟩) b.length b.length] 114)) gm 0 (fun _ => none) :=
      (Mp.made w1 hG).grown0 (grown_alloc (grown_alloc (grown_refl _ none) _) _)
    generalize (((w1.alloc (.map #[] 0)).alloc (.cells (intCs (List.replicate b.length 0)).toArray 3)).alloc (.cells #[.slice A b.length c, .int .i64 (W : Int), .int .i64 0, .map (some gm), .slice (some ⟨gm + 1, 0, none⟩) b.length b.length] 114)) = W3 at *
    have hgm : w.heap.size ≤ gm := by rw [← hG]; exact HG1.out.size
    have hg3 := HG1.out.trans hw3
    by_cases hb0 : b.length = 0
    · have r2 := hrow.cell (j := 2) rfl
      have HG3 := Lib.hid hg3
      have hpe : parseFrom b W b.length 0 = [] := parseFrom_done _ _ _ _ (by omega)
      have HPE := Lib.hid hpe
      rw [hb0] at hrow ⊢
      clear hms hmm hpe hw3 hrb hmp hG hg3
      go_loopw [6] (fun i V => i = .slice none 0 0 ∧ V = W3) (fun _ _ => 0)
      case atStart => exact ⟨rfl, rfl⟩
      case round =>
        obtain ⟨rfl, rfl⟩ := hrel
        go_wp2
        go_ret
        exact ⟨_, rfl, ⟨none, 0, by rw [HPE.out]; rfl, by rw [HPE.out]; exact Nat.le_refl _, Nat.zero_le _, fun h => absurd HPE.out h⟩, HG3.out⟩
    · have HI0 := Lib.hid (show ParI w W3 (gm + 1 + 1) (gm + 1) gm A c b W 0 (.slice none 0 0) [] from
        { prs := ⟨hrow, HV.out.grown0 hg3, ⟨_, hrb, by simp, fun q hq => by omega⟩, hmp.same (fun x => by simp [lastM, lastP]), by omega, fun k hk => by
            have := HV.out.own_lt (by intro e; have := congrArg List.length e; rw [bytesV_len] at this; simp at this; subst this; simp at hb0) k hk
            omega, Nat.zero_le _⟩
          own := World.ownsRow_nil _ _ _ _
          grow := hg3
          ne := fun k hk => by cases hk
          new := by omega
          eq := ⟨b.length, rfl, by omega⟩
          len := ⟨Nat.le_refl _, rfl⟩ })
      have HS := Lib.hid hsm
      clear hms hmm hw3 hrow hrb hmp hG hgm hg3 hsm
      generalize gm + 1 + 1 = gp at *
      generalize gm + 1 = gb at *
      go_loopw [6] (fun i V => ∃ (p : Nat) (l : List Tok), ParI w V gp gb gm A c b W p i l) (fun i _ => b.length - sliceLen i)
      case atStart => exact ⟨_, _, HI0.out⟩
      case round =>
        obtain ⟨p, l, hi⟩ := hrel
        have hple := hi.prs.le
        have hll := hi.len
        obtain ⟨f, hfe, hfl⟩ := hi.eq
        have r2 := hi.prs.row.cell (j := 2) rfl
        by_cases hpb : p < b.length
        · obtain ⟨f', rfl⟩ : ∃ f', f = f' + 1 := ⟨f - 1, by omega⟩
          rw [parseFrom, if_pos hpb] at hfe
          obtain ⟨n, hn, hn1, hn2⟩ := tokAt_bound b W p hpb
          have HT := Lib.hid (token_any gp gb gm A c b W p wr hi.prs hpb HS.out HWB.out.2)
          rw [hn, Int.toNat_natCast] at hfe
          have HSZ := Lib.hid (fun w => size_any (tokAt b W p) w)
          simp only [hn] at HSZ
          generalize tokAt b W p = t at *
          have HFE := Lib.hid hfe
          have HI := Lib.hid hi
          clear hfe hi hn HI0
          go_wp2_with fail
          refine HT.out.mono ?_
          rintro e w4 ⟨rfl, hg4⟩
          have hg4 : wr.grownBy w4 none := hg4
          have HG4 := Lib.hid hg4
          clear hg4 HT r2
          unfold tokV
          go_wp2_with fail
          refine (HSZ.out _).mono ?_
          rintro e w5 ⟨rfl, hg5⟩
          have HG5 := Lib.hid ((grown_alloc HG4.out (.cells (tokC t).toArray 37)).trans hg5)
          have R5 := Lib.hid ((Row.new w4 37 (tokC t)).grown0 hg5)
          have HLT := Lib.hid (show gp < w4.heap.size ∧ gb < w4.heap.size ∧ gm < w4.heap.size by
            have h1 := HI.out.prs.row.lt
            obtain ⟨lb, hlr, _⟩ := HI.out.prs.bef
            have h2 := hlr.lt
            have h3 := HI.out.prs.map.lt
            have h4 := HG4.out.size
            omega)
          have HPS := Lib.hid (pass_any gp gb gm A c b (W : Int) p n w5 (HI.out.prs.grown0 HG5.out) hn2 HS.out)
          clear hg5 HSZ
          go_wp2_with fail
          refine HPS.out.mono ?_
          rintro e w6 ⟨rfl, hp6, hk6⟩
          have R6 : Row w6 w4.heap.size 37 (tokC t) := (hk6.block _ R5.out.lt (by have := HLT.out; omega) (by have := HLT.out; omega) (by have := HLT.out; omega)).trans R5.out
          have d0 := R6.cell (j := 0) rfl
          have d1 := R6.cell (j := 1) rfl
          have d2 := R6.cell (j := 2) rfl
          have HG6 := Lib.hid (keeps_below (HI.out.grow.trans HG5.out) hk6 HI.out.new.1 HI.out.new.2.1 HI.out.new.2.2)
          have HO6 := Lib.hid (own_same (own_grown HI.out.own HG5.out) (fun k hk => hk6.block k ((own_grown HI.out.own HG5.out).lt k hk).2 (HI.out.ne k hk).1 (HI.out.ne k hk).2.1 (HI.out.ne k hk).2.2))
          have HP6 := Lib.hid hp6
          have HSZ6 := Lib.hid (show w4.heap.size ≤ w6.heap.size by have := R6.lt; omega)
          clear hp6 hk6 R6 HPS R5 HG5
          go_wp2_with (first
            | (refine wpList_buildTok rfl _ 37 31 (.inl ⟨rfl, rfl⟩) rfl t rfl ?_)
            | (at_builtin; refine wpList_appTok rfl _ _ 37 31 (.inl ⟨rfl, rfl⟩) rfl w.heap.size u6 l.length (tokCs l) rfl (own_grown HO6.out (grown_alloc (grown_refl _ none) _)) w6.heap.size t rfl (Row.new w6 _ (tokC t)) (by have := HS.out; omega) (Nat.le_trans HG6.out.size (by simp)) ?_; intro g' c' w7 ho7 hg7 hat7; have HO7 := Lib.hid ho7; have HG7 := Lib.hid hg7; have HAT := Lib.hid hat7; clear ho7 hg7 hat7 d0 d1 d2))
          go_roundw
          case rel =>
            have hal := grown_alloc (grown_refl w6 none) (.cells (tokC t).toArray 37)
            have hlt := HLT.out
            have hsz := HSZ6.out
            have hgr : w.grownBy w7 none := grown_new (HG6.out.trans hal) HG7.out (fun k e => (HI.out.own.lt k e).1)
            refine ⟨p + n, l ++ [t], ?_⟩
            exact
              { prs := by
                  have h := HP6.out.grown0 hal
                  cases hu : u6.ownBlock with
                  | none => rw [hu] at HG7; exact h.grown0 HG7.out
                  | some k =>
                    rw [hu] at HG7
                    obtain ⟨n1, n2, n3⟩ := HI.out.ne k hu
                    refine h.turned2 HG7.out n1 n2 n3 (fun j hj => ?_)
                    have h1 := HV.out.own_lt (by intro e; have := congrArg List.length e; rw [bytesV_len] at this; simp at this; subst this; simp at hb0) j hj
                    have h2 := (HI.out.own.lt k hu).1
                    omega
                own := by rw [tokCs_app, show tokCs [t] = tokC t by simp [tokCs], List.length_append]; exact HO7.out
                grow := hgr
                ne := fun k hk => by
                  rcases HAT.out with e | e
                  · exact HI.out.ne k (by rw [← e]; exact hk)
                  · have : k = g' := by simp [Value.ownBlock] at hk; exact hk.symm
                    rw [this, e]
                    simp
                    omega
                new := HI.out.new
                eq := ⟨f', by rw [HFE.out]; simp, by omega⟩
                len := ⟨by have := HI.out.len.1; simp; omega, by simp [sliceLen]⟩ }
          case measure =>
            have h1 := HI.out.len.1
            have h2 := HI.out.len.2
            show b.length - (l.length + 1) < b.length - sliceLen u6
            omega
        · rw [parseFrom_done b W f p (by omega), List.append_nil] at hfe
          go_wp2
          go_ret
          exact ⟨_, rfl, by rw [hfe]; exact RdT.of_own rfl hi.own, hi.grow⟩
  · have hrb : (decide (1 ≤ win) && decide (win ≤ 32768)) = false := by simp; omega
    rw [hrb] at HW
    have hpe : parse b win = [] := by rw [parse, if_neg hr]
    rw [hpe]
    clear hr hrb hpe hms hmm
    go_enter Try.func35, Try.ntmps35
    go_wp2_with fail
    refine (HW.out _).mono ?_
    rintro e w1 ⟨rfl, hg1⟩
    go_wp2
    go_ret
    exact ⟨_, rfl, ⟨none, 0, rfl, Nat.le_refl _, Nat.zero_le _, fun h => absurd rfl h⟩, hg1⟩
end Go.Proofs.Ytibofgokdjbomaa
