/-
  Several texts in one file.
-/
import Derived.Test.YtiakkfcjdmecdaaDoorRows
import Derived.Test.YtiakkfcjdmecdaaDoorAppBytes
import Derived.Test.YtiakkfcjdmecdaaDoorMMem
/-
  What slices.Grow (of nil) and slices.Concat do at []byte, over this program.
-/
namespace Go.Proofs.YtiakkfcjdmecdaaDoor
set_option maxRecDepth 1000000
open Go.RowKit

/-- What a byte's type is. -/
theorem info5 : ∃ i, Tryd.prog.info? 5 = some i ∧ i.zero = some (.int .u8 0) ∧ i.size = 1 ∧ i.bytes = 1 := by
  have h : (Tryd.prog.info? 5).map (fun i => (i.zero, i.size, i.bytes)) = some (some (.int .u8 0), 1, 1) := by kernel_rfl
  obtain ⟨i, hi, he⟩ := Option.map_eq_some_iff.1 h
  simp only [Prod.mk.injEq] at he
  exact ⟨i, hi, he.1, he.2.1, he.2.2⟩
/-- A new row of the call's own, empty. -/
def Fresh (w : World) (e : Ending) (w' : World) : Prop :=
  ∃ v, e = .returned v ∧ w'.ownsRow w.heap.size 5 1 v 0 [] ∧ w.grownBy w' none
set_option maxHeartbeats 400000 in
theorem grow_nil (n : Nat) (w : World) (hn : n ≤ 140737488355328) :
    Calls Tryd.prog 82 #[.slice none 0 0, .int .i64 n] w (Fresh w) := by
  obtain ⟨i, hi, hz, hs, hb⟩ := info5
  by_cases h0 : n = 0
  · subst h0
    go_enter Tryd.func82, Tryd.ntmps82
    go_wp2
    go_ret
    exact ⟨_, rfl, World.ownsRow_nil _ _ _ _, grown_refl _ _⟩
  · have hpos : 0 < n := by omega
    have hr := fun ty => Lib.run_append_nil_zeros (P := Tryd.prog) w 45 3 ty 5 i (.int .u8 0) .i64 .i64 Tryd.underlying45 Tryd.underlying3 hi hz n hpos (by omega) (by omega) (by rw [hb]; omega)
    have hge := grownCap_ge w n 0 5
    have hle := grownCap_le_maxLen w n 0 5 (by simp only [maxLen]; omega)
    generalize grownCap w n 0 5 = G at hr hge hle
    have HB := Lib.hid hb
    have HI := Lib.hid hi
    have HZ := Lib.hid hz
    have HS := Lib.hid hs
    clear hb hi hz hs h0
    have hG : (G : Int) ≤ 9223372036854775807 := by simp only [maxLen] at hle; omega
    go_enter Tryd.func82, Tryd.ntmps82
    go_wp2_with (at_builtin; refine Lib.wpList_append_run _ rfl _ _ _ _ rfl _ _ rfl rfl _ _ (hr _) ?_)
    go_ret
    refine ⟨_, rfl, ?_, ?_⟩
    · refine World.ownsRow_made _ _ _ (Nat.le_refl _) hle ?_
      simp [size_zeroCells]
      have : (Value.int IntKind.u8 0).cells.size = 1 := rfl
      omega
    · exact grown_alloc (grown_drew (grown_refl _ _)) _
/-- How many bytes the first k lists have. -/
def lensTo (ls : List (List UInt8)) (k : Nat) : Nat := (ls.take k).flatten.length
theorem lensTo_succ (ls : List (List UInt8)) (k : Nat) (l : List UInt8) (h : ls[k]? = some l) : lensTo ls (k + 1) = lensTo ls k + l.length := by
  obtain ⟨hk, rfl⟩ := List.getElem?_eq_some_iff.1 h
  unfold lensTo
  rw [List.take_succ_eq_append_getElem hk]
  simp only [List.flatten_append, List.flatten_cons, List.flatten_nil, List.append_nil, List.length_append]
theorem lensTo_le (ls : List (List UInt8)) (k : Nat) : lensTo ls k ≤ ls.flatten.length := by
  have h : ls.flatten = (ls.take k).flatten ++ (ls.drop k).flatten := by rw [← List.flatten_append, List.take_append_drop]
  rw [h, List.length_append]
  exact Nat.le_add_right _ _
theorem flatTo_succ (ls : List (List UInt8)) (k : Nat) (l : List UInt8) (h : ls[k]? = some l) : (ls.take (k + 1)).flatten = (ls.take k).flatten ++ l := by
  obtain ⟨hk, rfl⟩ := List.getElem?_eq_some_iff.1 h
  rw [List.take_succ_eq_append_getElem hk]
  simp only [List.flatten_append, List.flatten_cons, List.flatten_nil, List.append_nil]
set_option maxHeartbeats 1000000 in
theorem concat_own (g : Nat) (vs : List Value) (ls : List (List UInt8)) (w : World) (hg : w.heap[g]? = some (.cells vs.toArray 45 (0, 0)))
    (hlen : vs.length = ls.length) (hr : ∀ (k : Nat) (v : Value) (l : List UInt8), vs[k]? = some v → ls[k]? = some l → Rd w v (bytesV l)) (ht : ls.flatten.length ≤ 70368744177664) (hk : vs.length ≤ 100) :
    Calls Tryd.prog 57 #[.slice (some ⟨g, 0, none⟩) vs.length vs.length] w (OutO w ls.flatten) := by
  have hcell : ∀ W : World, w.grownBy W none → ∀ k, k < vs.length → ∃ v l A c, vs[k]? = some v ∧ ls[k]? = some l ∧ v = .slice A l.length c ∧ Rd W v (bytesV l) ∧ W.cell? ⟨g, k, none⟩ = some v := by
    intro W hW k hk
    obtain ⟨v, hv⟩ : ∃ v, vs[k]? = some v := ⟨vs[k], List.getElem?_eq_getElem hk⟩
    obtain ⟨l, hl⟩ : ∃ l, ls[k]? = some l := ⟨ls[k]'(by omega), List.getElem?_eq_getElem (by omega)⟩
    have hR := (hr k v l hv hl).grown0 hW
    obtain ⟨A, c, hA, _⟩ := hR
    refine ⟨v, l, A, c, hv, hl, by rw [hA, bytesV_len], (hr k v l hv hl).grown0 hW, ?_⟩
    have hlt : g < w.heap.size := by
      rcases Nat.lt_or_ge g w.heap.size with h | h
      · exact h
      · rw [Array.getElem?_eq_none h] at hg; cases hg
    rw [cell_of_row W g k _ _ _ ((hW.block g hlt (by simp)).trans hg)]
    simpa using hv
  have HC := Lib.hid hcell
  have HG := Lib.hid hg
  have HR := Lib.hid hr
  have HL := Lib.hid hlen
  clear hcell hg hr hlen
  generalize hn : vs.length = n at *
  have HN := Lib.hid hn
  clear hn
  go_enter Tryd.func57, Tryd.ntmps57
  go_wp2
  go_loop [3, 11] (fun a b => ∃ k : Nat, k ≤ n ∧ b = .int .i64 k ∧ a = .int .i64 (lensTo ls k)) (fun _ b => n - (intOf b).toNat)
  case atStart => exact ⟨0, Nat.zero_le _, rfl, rfl⟩
  case round =>
    obtain ⟨k, hkn, rfl, rfl⟩ := hrel
    by_cases hlt : k < n
    · obtain ⟨v, l, A, c, hv, hl, rfl, hR, hcl⟩ := HC.out w (grown_refl _ _) k hlt
      have hs := Lib.hid (lensTo_succ ls k l hl)
      have hle := lensTo_le ls (k + 1)
      have hle2 : lensTo ls k + l.length ≤ 70368744177664 := by have := hs.out; omega
      clear hv hl hR
      go_wp2
      go_round
      case rel => exact ⟨k + 1, by omega, by go_num, by rw [hs.out]; go_num⟩
      case measure => simp [intOf]; omega
    · have hkn' : k = n := by omega
      have hnl : n = ls.length := HL.out
      have hT : Hid (lensTo ls k = ls.flatten.length) := by
        show lensTo ls k = _
        rw [hkn', hnl, lensTo, List.take_length]
      have hTle : lensTo ls k ≤ 70368744177664 := by rw [hT.out]; exact ht
      have HNL := Lib.hid hnl
      clear hnl hkn'
      go_wp2_with (go_at_call 82; refine (grow_nil _ _ (by omega)).mono ?_; rintro e w1 ⟨v0, rfl, hown0, hgr0⟩)
      go_loopw [6, 27] (fun s b W => ∃ j : Nat, j ≤ n ∧ b = .int .i64 j ∧ W.ownsRow w.heap.size 5 1 s (lensTo ls j) (bytesV (ls.take j).flatten) ∧ w.grownBy W none) (fun _ b _ => n - (intOf b).toNat)
      case atStart => exact ⟨0, Nat.zero_le _, rfl, by simpa [lensTo, bytesV] using hown0, hgr0⟩
      case round =>
        clear hown0 hgr0
        obtain ⟨j, hjn, rfl, hown, hgr⟩ := hrel
        by_cases hjlt : j < n
        · obtain ⟨v, l, A, c, hv, hl, rfl, hR, hcl⟩ := HC.out _ hgr j hjlt
          have hs := Lib.hid (lensTo_succ ls j l hl)
          have hf := Lib.hid (flatTo_succ ls j l hl)
          have hle := lensTo_le ls (j + 1)
          have hle2 : lensTo ls j + l.length ≤ 70368744177664 := by have := hs.out; omega
          obtain ⟨i, hi, hz, hs1, hb⟩ := info5
          have HI := Lib.hid (And.intro hi (And.intro hz (And.intro hs1 hb)))
          clear hb hi hz hs1 hv hl
          go_wp2_with (at_builtin; refine wpList_append_rd _ rfl _ _ _ rfl w.heap.size 5 i (.int .u8 0) 1 Tryd.underlying45 HI.out.1 HI.out.2.1 HI.out.2.2.1 HI.out.2.2.2 rfl _ (lensTo ls j) _ rfl hown _ (bytesV l) rfl hR (bytesV_one l) ?_ ?_ ?_ ?_)
          · rw [bytesV_len]; omega
          · rw [bytesV_len]; omega
          · exact hgr.size
          · intro v' w' ho hg hat
            go_wp2
            go_roundw
            case rel => exact ⟨j + 1, by omega, by go_num, by rw [hs.out, hf.out, bytesV_app, ← bytesV_len l]; exact ho, grown_new hgr hg fun b hb => (hown.lt b hb).1⟩
            case measure => simp [intOf]; omega
        · have hjn' : j = n := by omega
          have hfl : Hid ((ls.take j).flatten = ls.flatten) := by
            show _ = _
            rw [hjn', HNL.out, List.take_length]
          clear hjn'
          go_wp2
          go_ret
          exact ⟨_, rfl, by rw [← hfl.out]; exact hown, hgr⟩
theorem concat_any (g : Nat) (vs : List Value) (ls : List (List UInt8)) (w : World) (hg : w.heap[g]? = some (.cells vs.toArray 45 (0, 0)))
    (hlen : vs.length = ls.length) (hr : ∀ (k : Nat) (v : Value) (l : List UInt8), vs[k]? = some v → ls[k]? = some l → Rd w v (bytesV l)) (ht : ls.flatten.length ≤ 70368744177664) (hk : vs.length ≤ 100) :
    Calls Tryd.prog 57 #[.slice (some ⟨g, 0, none⟩) vs.length vs.length] w (Out w ls.flatten) :=
  (concat_own g vs ls w hg hlen hr ht hk).mono fun _ _ h => h.out
end Go.Proofs.YtiakkfcjdmecdaaDoor

/-
  octet.Fixed over this program.
-/
namespace Go.Proofs.YtiakkfcjdmecdaaDoor.O
open Go.RowKit

theorem rd_two {w : World} {v v1 : Value} {b l : List UInt8} (h : Rd w v (bytesV b)) (h1 : Rd w v1 (bytesV l)) :
    ∀ (k : Nat) (x : Value) (y : List UInt8), [v, v1][k]? = some x → [b, l][k]? = some y → Rd w x (bytesV y) := by
  intro k x y hx hy
  match k with
  | 0 => simp at hx hy; subst hx hy; exact h
  | 1 => simp at hx hy; subst hx hy; exact h1
  | k + 2 => simp at hx
theorem rd_three {w : World} {v v1 v2 : Value} {b l m : List UInt8} (h : Rd w v (bytesV b)) (h1 : Rd w v1 (bytesV l)) (h2 : Rd w v2 (bytesV m)) :
    ∀ (k : Nat) (x : Value) (y : List UInt8), [v, v1, v2][k]? = some x → [b, l, m][k]? = some y → Rd w x (bytesV y) := by
  intro k x y hx hy
  match k with
  | 0 => simp at hx hy; subst hx hy; exact h
  | 1 => simp at hx hy; subst hx hy; exact h1
  | 2 => simp at hx hy; subst hx hy; exact h2
  | k + 3 => simp at hx
/-- The lowest k bytes of a number, the lowest first. -/
def low : Nat → Nat → List UInt8
  | 0, _ => []
  | k + 1, n => UInt8.ofNat n :: low k (n / 256)
theorem low_len (k n : Nat) : (low k n).length = k := by
  induction k generalizing n with
  | zero => rfl
  | succ k ih => simp [low, ih]
theorem low_snoc (k n : Nat) : low (k + 1) n = low k n ++ [UInt8.ofNat (n / 256 ^ k)] := by
  induction k generalizing n with
  | zero => simp [low]
  | succ k ih =>
    rw [low, ih (n / 256), low, Nat.div_div_eq_div_mul, Nat.pow_succ, Nat.mul_comm (256 ^ k) 256]
    rfl
def okWidth (n : Int) : Bool := decide (0 ≤ n ∧ n ≤ 8)
/-- How many bytes are put for a width. -/
def wid (n : Int) : Nat := if okWidth n then n.toNat else 0
end Go.Proofs.YtiakkfcjdmecdaaDoor.O

/-
  What slices.Grow (of nil), slices.Concat and slices.Clone do at []byte, over this program.
-/
namespace Go.Proofs.YtiakkfcjdmecdaaDoor
set_option maxRecDepth 1000000
open Go.RowKit

set_option maxHeartbeats 400000 in
theorem clone_any (v : Value) (l : List UInt8) (w : World) (hv : Rd w v (bytesV l)) (hl : l.length ≤ 140737488355328) :
    Calls Tryd.prog 75 #[v] w (Out w l) := by
  have hv0 := hv
  obtain ⟨A, c, rfl, h1, h2, h3⟩ := hv
  cases A with
  | none =>
    have hl0 : l = [] := by
      rcases l with _ | ⟨x, l⟩
      · rfl
      · obtain ⟨ad, h, _⟩ := h3 (by simp [bytesV]); cases h
    subst hl0
    have hnil := fun W => Lib.run_eql_slice_nil (P := Tryd.prog) W 45 5 none 0 c 0 0 Tryd.underlying45
    show Calls Tryd.prog 75 #[.slice none 0 c] w _
    clear h1 h2 h3 hv0
    go_enter Tryd.func75, Tryd.ntmps75
    go_wp2
    go_ret
    exact ⟨_, rfl, Rd.nil w, grown_refl _ _, fun b hb => by cases hb⟩
  | some ad =>
    have hnil := fun W => Lib.run_eql_slice_nil (P := Tryd.prog) W 45 5 (some ad) (bytesV l).length c 0 0 Tryd.underlying45
    clear h3 h1 h2
    have hn : (bytesV l).length = l.length := bytesV_len l
    generalize (bytesV l).length = n at *
    have HN := Lib.hid hn
    clear hn
    obtain ⟨i, hi, hz, hs, hb⟩ := info5
    have HI := Lib.hid (And.intro hi (And.intro hz (And.intro hs hb)))
    clear hb hi hz hs
    go_enter Tryd.func75, Tryd.ntmps75
    go_wp2_with (at_builtin; refine wpList_append_rd _ rfl _ _ _ rfl w.heap.size 5 i (.int .u8 0) 1 Tryd.underlying45 HI.out.1 HI.out.2.1 HI.out.2.2.1 HI.out.2.2.2 rfl _ 0 [] rfl ?_ _ (bytesV l) rfl ?_ (bytesV_one l) ?_ ?_ ?_ ?_)
    · exact World.ownsRow_made _ _ _ (Nat.le_refl _) (Nat.zero_le _) rfl
    · exact hv0.grown0 (grown_alloc (grown_refl _ _) _)
    · rw [bytesV_len]; omega
    · rw [bytesV_len]; omega
    · simp
    · intro v' w' ho hg hat
      go_wp2
      go_ret
      refine ⟨_, rfl, by simpa using Rd.of_own ho, grown_new (grown_alloc (grown_refl _ _) _) hg ?_, fun b hb => ho.lt b hb⟩
      intro b hb
      simp [Value.ownBlock] at hb
      omega
end Go.Proofs.YtiakkfcjdmecdaaDoor

/-
  octet's calls that put numbers and bytes, over this program.
-/
namespace Go.Proofs.YtiakkfcjdmecdaaDoor
set_option maxRecDepth 1000000
open Go.RowKit

/-- The bytes of a number, 7 bits each, the lowest first. -/
def enc (n : Nat) : List UInt8 := if n < 128 then [UInt8.ofNat n] else UInt8.ofNat (128 + n % 128) :: enc (n / 128)
theorem enc_small {n : Nat} (h : n < 128) : enc n = [UInt8.ofNat n] := by unfold enc; rw [if_pos h]
theorem enc_big {n : Nat} (h : 128 ≤ n) : enc n = UInt8.ofNat (128 + n % 128) :: enc (n / 128) := by rw [enc]; rw [if_neg (by omega)]
theorem enc_pos (n : Nat) : 0 < (enc n).length := by unfold enc; split <;> simp
theorem enc_len (n : Nat) : (enc n).length ≤ n + 1 := by
  induction n using Nat.strongRecOn with
  | _ n ih =>
    by_cases h : n < 128
    · rw [enc_small h]; simp
    · rw [enc_big (by omega)]
      have := ih (n / 128) (by omega)
      simp only [List.length_cons]
      omega
/-- The number that is put for n. -/
def norm (n : Int) : Nat := if n < 0 ∨ 1099511627775 < n then 0 else n.toNat
theorem norm_le (n : Int) : norm n ≤ 1099511627775 := by unfold norm; split <;> omega

theorem or128_fin : ∀ x : Fin 256, bits BinOp.or IntKind.u8 ((x.val : Nat) : Int) 128 = ((128 + x.val % 128 : Nat) : Int) := by decide +kernel
theorem or128 (m : Nat) : bits BinOp.or IntKind.u8 ((m : Int) % 256) 128 = ((UInt8.ofNat (128 + m % 128)).toNat : Int) := by
  have h := or128_fin ⟨m % 256, by omega⟩
  simp only at h
  rw [show ((m : Int) % 256) = ((m % 256 : Nat) : Int) by omega, h, UInt8.toNat_ofNat']
  omega

set_option maxHeartbeats 1000000 in
set_option maxRecDepth 100000 in
theorem numberBytes_any (n : Int) (w : World) :
    Calls Tryd.prog 73 #[.int .i64 n] w (Out w (enc (norm n))) := by
  have hN := norm_le n
  have hcase : (n = (norm n : Int) ∧ 0 ≤ n ∧ ¬ 1099511627775 < n) ∨ (n < 0 ∧ norm n = 0) ∨ (¬ n < 0 ∧ 1099511627775 < n ∧ norm n = 0) := by
    unfold norm
    by_cases h1 : n < 0
    · simp [h1]
    · by_cases h2 : 1099511627775 < n
      · simp [h1, h2]
      · simp [h1, h2]; omega
  generalize norm n = N at *
  rcases hcase with ⟨rfl, h1, h2⟩ | ⟨h1, hc⟩ | ⟨h1, h2, hc⟩
  · have h1 : decide ((N : Int) < 0) = false := by simp
    have h2 : decide (1099511627775 < (N : Int)) = false := by simp; omega
    have HC := Lib.hid (rfl : N = N)
    go_enter Tryd.func73, Tryd.ntmps73
    go_wp2
    go_loopw [0, 3] (fun a s W => ∃ (m : Nat) (pre : List UInt8), a = .int .i64 m ∧ m ≤ N ∧ pre ++ enc m = enc N ∧ W.ownsRow w.heap.size 5 1 s pre.length (bytesV pre) ∧ w.grownBy W none) (fun a _ _ => (intOf a).toNat)
    case atStart => first | exact ⟨N, [], rfl, Nat.le_refl _, rfl, World.ownsRow_nil _ _ _ _, grown_refl _ _⟩ | exact ⟨0, [], rfl, Nat.zero_le _, by rw [HC.out]; rfl, World.ownsRow_nil _ _ _ _, grown_refl _ _⟩
    case round =>
      obtain ⟨m, pre, rfl, hm, hpre, hown, hgr⟩ := hrel
      have hb := congrArg List.length hpre
      have hb2 := enc_len N
      rw [List.length_append] at hb
      have hb3 : pre.length ≤ 1099511627776 := by omega
      have HP := Lib.hid hpre
      clear hpre hb hb2
      obtain ⟨i, hi, hz, hs1, hb⟩ := info5
      have HI := Lib.hid (And.intro hi (And.intro hz (And.intro hs1 hb)))
      clear hb hi hz hs1
      by_cases hge : 128 ≤ m
      · have hE := enc_big hge
        have hx := or128 m
        generalize UInt8.ofNat (128 + m % 128) = x at hE hx
        have HX := Lib.hid hx
        have HE := Lib.hid hE
        clear hx hE
        go_wp2_with (at_builtin; refine wpList_append_rd _ rfl _ _ _ rfl w.heap.size 5 i (.int .u8 0) 1 Tryd.underlying45 HI.out.1 HI.out.2.1 HI.out.2.2.1 HI.out.2.2.2 rfl _ pre.length _ rfl (hown.alloc _) _ [byteV x] rfl ?_ (fun x hx => by simp at hx; subst hx; rfl) ?_ ?_ ?_ ?_)
        · rw [HX.out]; exact Rd.one _ _ _
        · simp; omega
        · simp; omega
        · have := hgr.size; simp; omega
        · intro v' w' ho hg hat
          go_wp2
          go_roundw
          case rel => 
            refine ⟨m / 128, pre ++ [x], ?_, by omega, ?_, ?_, ?_⟩
            · go_num
            · rw [← HP.out, HE.out]; simp
            · rw [bytesV_app, List.length_append]; exact ho
            · exact grown_new (grown_alloc hgr _) hg fun b hb => (hown.lt b hb).1
          case measure => simp [intOf]; omega
      · have hlt : m < 128 := by omega
        have hE := enc_small hlt
        have hx : (m : Int) = ((UInt8.ofNat m).toNat : Int) := by rw [UInt8.toNat_ofNat']; omega
        generalize UInt8.ofNat m = x at hE hx
        have HX := Lib.hid hx
        have HE := Lib.hid hE
        clear hx hE
        go_wp2_with (at_builtin; refine wpList_append_rd _ rfl _ _ _ rfl w.heap.size 5 i (.int .u8 0) 1 Tryd.underlying45 HI.out.1 HI.out.2.1 HI.out.2.2.1 HI.out.2.2.2 rfl _ pre.length _ rfl (hown.alloc _) _ [byteV x] rfl ?_ (fun x hx => by simp at hx; subst hx; rfl) ?_ ?_ ?_ ?_)
        · rw [HX.out]; exact Rd.one _ _ _
        · simp; omega
        · simp; omega
        · have := hgr.size; simp; omega
        · intro v' w' ho hg hat
          go_wp2
          go_ret
          refine ⟨_, rfl, ?_, grown_new (grown_alloc hgr _) hg (fun b hb => (hown.lt b hb).1), fun b hb => ho.lt b hb⟩
          rw [← HP.out, HE.out, bytesV_app]
          exact Rd.of_own ho
  · have h1 : decide (n < 0) = true := by simpa using h1
    have HC := Lib.hid hc
    clear hc
    go_enter Tryd.func73, Tryd.ntmps73
    go_wp2
    go_loopw [0, 3] (fun a s W => ∃ (m : Nat) (pre : List UInt8), a = .int .i64 m ∧ m ≤ N ∧ pre ++ enc m = enc N ∧ W.ownsRow w.heap.size 5 1 s pre.length (bytesV pre) ∧ w.grownBy W none) (fun a _ _ => (intOf a).toNat)
    case atStart => first | exact ⟨N, [], rfl, Nat.le_refl _, rfl, World.ownsRow_nil _ _ _ _, grown_refl _ _⟩ | exact ⟨0, [], rfl, Nat.zero_le _, by rw [HC.out]; rfl, World.ownsRow_nil _ _ _ _, grown_refl _ _⟩
    case round =>
      obtain ⟨m, pre, rfl, hm, hpre, hown, hgr⟩ := hrel
      have hb := congrArg List.length hpre
      have hb2 := enc_len N
      rw [List.length_append] at hb
      have hb3 : pre.length ≤ 1099511627776 := by omega
      have HP := Lib.hid hpre
      clear hpre hb hb2
      obtain ⟨i, hi, hz, hs1, hb⟩ := info5
      have HI := Lib.hid (And.intro hi (And.intro hz (And.intro hs1 hb)))
      clear hb hi hz hs1
      by_cases hge : 128 ≤ m
      · have hE := enc_big hge
        have hx := or128 m
        generalize UInt8.ofNat (128 + m % 128) = x at hE hx
        have HX := Lib.hid hx
        have HE := Lib.hid hE
        clear hx hE
        go_wp2_with (at_builtin; refine wpList_append_rd _ rfl _ _ _ rfl w.heap.size 5 i (.int .u8 0) 1 Tryd.underlying45 HI.out.1 HI.out.2.1 HI.out.2.2.1 HI.out.2.2.2 rfl _ pre.length _ rfl (hown.alloc _) _ [byteV x] rfl ?_ (fun x hx => by simp at hx; subst hx; rfl) ?_ ?_ ?_ ?_)
        · rw [HX.out]; exact Rd.one _ _ _
        · simp; omega
        · simp; omega
        · have := hgr.size; simp; omega
        · intro v' w' ho hg hat
          go_wp2
          go_roundw
          case rel => 
            refine ⟨m / 128, pre ++ [x], ?_, by omega, ?_, ?_, ?_⟩
            · go_num
            · rw [← HP.out, HE.out]; simp
            · rw [bytesV_app, List.length_append]; exact ho
            · exact grown_new (grown_alloc hgr _) hg fun b hb => (hown.lt b hb).1
          case measure => simp [intOf]; omega
      · have hlt : m < 128 := by omega
        have hE := enc_small hlt
        have hx : (m : Int) = ((UInt8.ofNat m).toNat : Int) := by rw [UInt8.toNat_ofNat']; omega
        generalize UInt8.ofNat m = x at hE hx
        have HX := Lib.hid hx
        have HE := Lib.hid hE
        clear hx hE
        go_wp2_with (at_builtin; refine wpList_append_rd _ rfl _ _ _ rfl w.heap.size 5 i (.int .u8 0) 1 Tryd.underlying45 HI.out.1 HI.out.2.1 HI.out.2.2.1 HI.out.2.2.2 rfl _ pre.length _ rfl (hown.alloc _) _ [byteV x] rfl ?_ (fun x hx => by simp at hx; subst hx; rfl) ?_ ?_ ?_ ?_)
        · rw [HX.out]; exact Rd.one _ _ _
        · simp; omega
        · simp; omega
        · have := hgr.size; simp; omega
        · intro v' w' ho hg hat
          go_wp2
          go_ret
          refine ⟨_, rfl, ?_, grown_new (grown_alloc hgr _) hg (fun b hb => (hown.lt b hb).1), fun b hb => ho.lt b hb⟩
          rw [← HP.out, HE.out, bytesV_app]
          exact Rd.of_own ho
  · have h1 : decide (n < 0) = false := by simpa using h1
    have h2 : decide (1099511627775 < n) = true := by simpa using h2
    have HC := Lib.hid hc
    clear hc
    go_enter Tryd.func73, Tryd.ntmps73
    go_wp2
    go_loopw [0, 3] (fun a s W => ∃ (m : Nat) (pre : List UInt8), a = .int .i64 m ∧ m ≤ N ∧ pre ++ enc m = enc N ∧ W.ownsRow w.heap.size 5 1 s pre.length (bytesV pre) ∧ w.grownBy W none) (fun a _ _ => (intOf a).toNat)
    case atStart => first | exact ⟨N, [], rfl, Nat.le_refl _, rfl, World.ownsRow_nil _ _ _ _, grown_refl _ _⟩ | exact ⟨0, [], rfl, Nat.zero_le _, by rw [HC.out]; rfl, World.ownsRow_nil _ _ _ _, grown_refl _ _⟩
    case round =>
      obtain ⟨m, pre, rfl, hm, hpre, hown, hgr⟩ := hrel
      have hb := congrArg List.length hpre
      have hb2 := enc_len N
      rw [List.length_append] at hb
      have hb3 : pre.length ≤ 1099511627776 := by omega
      have HP := Lib.hid hpre
      clear hpre hb hb2
      obtain ⟨i, hi, hz, hs1, hb⟩ := info5
      have HI := Lib.hid (And.intro hi (And.intro hz (And.intro hs1 hb)))
      clear hb hi hz hs1
      by_cases hge : 128 ≤ m
      · have hE := enc_big hge
        have hx := or128 m
        generalize UInt8.ofNat (128 + m % 128) = x at hE hx
        have HX := Lib.hid hx
        have HE := Lib.hid hE
        clear hx hE
        go_wp2_with (at_builtin; refine wpList_append_rd _ rfl _ _ _ rfl w.heap.size 5 i (.int .u8 0) 1 Tryd.underlying45 HI.out.1 HI.out.2.1 HI.out.2.2.1 HI.out.2.2.2 rfl _ pre.length _ rfl (hown.alloc _) _ [byteV x] rfl ?_ (fun x hx => by simp at hx; subst hx; rfl) ?_ ?_ ?_ ?_)
        · rw [HX.out]; exact Rd.one _ _ _
        · simp; omega
        · simp; omega
        · have := hgr.size; simp; omega
        · intro v' w' ho hg hat
          go_wp2
          go_roundw
          case rel => 
            refine ⟨m / 128, pre ++ [x], ?_, by omega, ?_, ?_, ?_⟩
            · go_num
            · rw [← HP.out, HE.out]; simp
            · rw [bytesV_app, List.length_append]; exact ho
            · exact grown_new (grown_alloc hgr _) hg fun b hb => (hown.lt b hb).1
          case measure => simp [intOf]; omega
      · have hlt : m < 128 := by omega
        have hE := enc_small hlt
        have hx : (m : Int) = ((UInt8.ofNat m).toNat : Int) := by rw [UInt8.toNat_ofNat']; omega
        generalize UInt8.ofNat m = x at hE hx
        have HX := Lib.hid hx
        have HE := Lib.hid hE
        clear hx hE
        go_wp2_with (at_builtin; refine wpList_append_rd _ rfl _ _ _ rfl w.heap.size 5 i (.int .u8 0) 1 Tryd.underlying45 HI.out.1 HI.out.2.1 HI.out.2.2.1 HI.out.2.2.2 rfl _ pre.length _ rfl (hown.alloc _) _ [byteV x] rfl ?_ (fun x hx => by simp at hx; subst hx; rfl) ?_ ?_ ?_ ?_)
        · rw [HX.out]; exact Rd.one _ _ _
        · simp; omega
        · simp; omega
        · have := hgr.size; simp; omega
        · intro v' w' ho hg hat
          go_wp2
          go_ret
          refine ⟨_, rfl, ?_, grown_new (grown_alloc hgr _) hg (fun b hb => (hown.lt b hb).1), fun b hb => ho.lt b hb⟩
          rw [← HP.out, HE.out, bytesV_app]
          exact Rd.of_own ho
end Go.Proofs.YtiakkfcjdmecdaaDoor

/-
  octet.Number, octet.Bytes, octet.Fixed over this program.
-/
namespace Go.Proofs.YtiakkfcjdmecdaaDoor.O
open Go.RowKit

set_option maxHeartbeats 400000 in
theorem number_any (v : Value) (b : List UInt8) (n : Int) (w : World) (hv : Rd w v (bytesV b)) (hb : b.length ≤ 1099511627776) :
    Calls Tryd.prog 49 #[v, .int .i64 n] w (Out w (b ++ enc (norm n))) := by
  have hN := norm_le n
  have hE := enc_len (norm n)
  generalize hl : enc (norm n) = l at *
  have HL := Lib.hid hl
  have HV := hv
  obtain ⟨A, c, rfl⟩ := hv.form
  clear hv hl
  have HB : Hid (l.length ≤ 1099511627776) := by show _ ≤ _; omega
  have HB2 : Hid (b.length ≤ 1099511627776) := hb
  clear hE hN hb
  go_enter Tryd.func49, Tryd.ntmps49
  go_wp2_with fail
  refine (numberBytes_any n _).mono ?_
  rintro e w1 ⟨v1, rfl, hr1, hg1, hf1⟩
  rw [HL.out] at hr1
  have HR1 := hr1
  obtain ⟨A1, c1, rfl⟩ := hr1.form
  clear hr1
  go_wp2_with fail
  refine (concat_any w1.heap.size [_, _] [b, l] _ (heap_alloc_new w1 _) rfl (rd_two ((HV.grown0 hg1).grown0 (grown_alloc (grown_refl _ _) _)) (HR1.grown0 (grown_alloc (grown_refl _ _) _))) ?_ (by simp)).mono ?_
  · have h1 := HB.out
    have h2 := HB2.out
    simp; omega
  · rintro e w2 ⟨v2, rfl, hr2, hg2, hf2⟩
    go_wp2
    go_ret
    refine ⟨_, rfl, by simpa using hr2, ?_, ?_⟩
    · exact grown_new (grown_alloc hg1 _) hg2 (fun _ h => by cases h)
    · intro x hx
      have := hf2 x hx
      have := hg1.size
      simp at *
      omega
set_option maxHeartbeats 400000 in
theorem bytes_any (v u : Value) (b x : List UInt8) (w : World) (hv : Rd w v (bytesV b)) (hu : Rd w u (bytesV x)) (hb : b.length ≤ 1099511627776) (hx : x.length ≤ 1099511627775) :
    Calls Tryd.prog 74 #[v, u] w (Out w (b ++ enc x.length ++ x)) := by
  have hE := enc_len x.length
  generalize hl : enc x.length = l at *
  have HN : Hid (norm (x.length : Int) = x.length) := by show _ = _; unfold norm; rw [if_neg (by omega)]; simp
  have HL := Lib.hid hl
  have HV := hv
  obtain ⟨A, c, rfl⟩ := hv.form
  have HU := hu
  obtain ⟨A', c', rfl⟩ := hu.form
  clear hv hl hu
  rw [bytesV_len x] at *
  have HB : Hid (l.length ≤ 1099511627776 ∧ b.length ≤ 1099511627776 ∧ x.length ≤ 1099511627776) := by show _ ∧ _; omega
  clear hE hb hx
  go_enter Tryd.func74, Tryd.ntmps74
  go_wp2_with fail
  refine (numberBytes_any _ _).mono ?_
  rintro e w1 ⟨v1, rfl, hr1, hg1, hf1⟩
  rw [HN.out, HL.out] at hr1
  have HR1 := hr1
  obtain ⟨A1, c1, rfl⟩ := hr1.form
  clear hr1
  go_wp2_with fail
  refine (concat_any w1.heap.size [_, _, _] [b, l, x] _ (heap_alloc_new w1 _) rfl (rd_three ((HV.grown0 hg1).grown0 (grown_alloc (grown_refl _ _) _)) (HR1.grown0 (grown_alloc (grown_refl _ _) _)) ((HU.grown0 hg1).grown0 (grown_alloc (grown_refl _ _) _))) ?_ (by simp)).mono ?_
  · have h1 := HB.out
    simp; omega
  · rintro e w2 ⟨v2, rfl, hr2, hg2, hf2⟩
    go_wp2
    go_ret
    refine ⟨_, rfl, by simpa using hr2, ?_, ?_⟩
    · exact grown_new (grown_alloc hg1 _) hg2 (fun _ h => by cases h)
    · intro x hx
      have := hf2 x hx
      have := hg1.size
      simp at *
      omega

end Go.Proofs.YtiakkfcjdmecdaaDoor.O

/-
  octet's Reader: New, Err, Left, Fail, End, over this program.
-/
namespace Go.Proofs.YtiakkfcjdmecdaaDoor.O
open Go.RowKit

/-- Block g is a Reader with the bytes l left and the error x. -/
def Rdr (w : World) (g : Nat) (l : List UInt8) (x : Int) : Prop :=
  ∃ v, w.heap[g]? = some (.cells #[v, .int .i64 x] 90 (0, 0)) ∧ Rd w v (bytesV l) ∧ ∀ b, v.ownBlock = some b → b < g

theorem Rdr.grown {w w' : World} {g : Nat} {l : List UInt8} {x : Int} {row : Option Nat} (h : Rdr w g l x) (hg : w.grownBy w' row) (hr : ∀ b, row = some b → g < b) : Rdr w' g l x := by
  obtain ⟨v, hb, hv, hl⟩ := h
  have hlt : g < w.heap.size := by
    rcases Nat.lt_or_ge g w.heap.size with h | h
    · exact h
    · rw [Array.getElem?_eq_none h] at hb; cases hb
  refine ⟨v, (hg.block g hlt (fun e => by have := hr g e.symm; omega)).trans hb, hv.grown hg (fun b hb e => ?_), hl⟩
  have := hr b e.symm
  have := hl b hb
  omega

theorem Rdr.lt {w : World} {g : Nat} {l : List UInt8} {x : Int} (h : Rdr w g l x) : g < w.heap.size := by
  obtain ⟨v, hb, _⟩ := h
  rcases Nat.lt_or_ge g w.heap.size with h | h
  · exact h
  · rw [Array.getElem?_eq_none h] at hb; cases hb

theorem row_set {w : World} {g : Nat} {cs : Array Value} {t : TypeId} (h : w.heap[g]? = some (.cells cs t (0, 0))) (i : Nat) (u : Value) :
    (w.setCell ⟨g, i, none⟩ u).heap[g]? = some (.cells (cs.setIfInBounds i u) t (0, 0)) := by
  simp [World.setCell, Array.getElem?_modify, h]

theorem grown_set (w : World) (g i : Nat) (u : Value) : w.grownBy (w.setCell ⟨g, i, none⟩ u) (some g) :=
  ⟨rfl, rfl, rfl, by simp [World.setCell], fun k _ hk => Below.heap_setCell w ⟨g, i, none⟩ u k (fun e => hk (by rw [e]))⟩

/-- What New answers. -/
def NewOut (w : World) (l : List UInt8) (e : Ending) (w' : World) : Prop :=
  ∃ g, e = .returned (.pointer (some ⟨g, 0, none⟩)) ∧ Rdr w' g l 0 ∧ w.heap.size ≤ g ∧ w.grownBy w' none

set_option maxHeartbeats 400000 in
theorem new_any (v : Value) (l : List UInt8) (w : World) (hv : Rd w v (bytesV l)) (hl : l.length ≤ 140737488355328) :
    Calls Tryd.prog 51 #[v] w (NewOut w l) := by
  have HC := clone_any v l w hv hl
  obtain ⟨A, c, rfl⟩ := hv.form
  have H := Lib.hid HC
  have HLL : Hid (l.length ≤ 140737488355328) := hl
  clear HC hv hl
  go_enter Tryd.func51, Tryd.ntmps51
  go_wp2_with fail
  refine H.out.mono ?_
  rintro e w1 ⟨v1, rfl, hr1, hg1, hf1⟩
  have HR := hr1
  obtain ⟨A1, c1, rfl⟩ := hr1.form
  go_wp2
  go_ret
  refine ⟨w1.heap.size, rfl, ⟨_, heap_alloc_new w1 _, HR.grown0 (grown_alloc (grown_refl _ _) _), ?_⟩, hg1.size, grown_alloc hg1 _⟩
  exact fun b hb => (hf1 b hb).2

set_option maxHeartbeats 400000 in
theorem err_nil (w : World) :
    Calls Tryd.prog 77 #[.pointer none] w fun e w' => e = .returned (.int .i64 2) ∧ w = w' := by
  go_enter Tryd.func77, Tryd.ntmps77
  go_wp2
  go_ret
  exact ⟨rfl, rfl⟩

set_option maxHeartbeats 400000 in
theorem err_at (g : Nat) (l : List UInt8) (x : Int) (w : World) (h : Rdr w g l x) :
    Calls Tryd.prog 77 #[.pointer (some ⟨g, 0, none⟩)] w fun e w' => e = .returned (.int .i64 x) ∧ w = w' := by
  obtain ⟨v, hb, _⟩ := h
  have h1 : w.cell? ⟨g, 1, none⟩ = some (.int .i64 x) := by rw [cell_of_row w g 1 _ _ _ hb]; rfl
  clear hb
  go_enter Tryd.func77, Tryd.ntmps77
  go_wp2
  go_ret
  exact ⟨rfl, rfl⟩

def leftOf (l : List UInt8) (x : Int) : Nat := if x = 0 then l.length else 0

set_option maxHeartbeats 400000 in
theorem left_nil (w : World) :
    Calls Tryd.prog 81 #[.pointer none] w fun e w' => e = .returned (.int .i64 0) ∧ w = w' := by
  go_enter Tryd.func81, Tryd.ntmps81
  go_wp2_with (go_at_call 77; refine (err_nil _).mono ?_; rintro e w1 ⟨rfl, rfl⟩)
  go_ret
  exact ⟨rfl, rfl⟩

set_option maxHeartbeats 400000 in
theorem left_at (g : Nat) (l : List UInt8) (x : Int) (w : World) (h : Rdr w g l x) :
    Calls Tryd.prog 81 #[.pointer (some ⟨g, 0, none⟩)] w fun e w' => e = .returned (.int .i64 (leftOf l x)) ∧ w = w' := by
  have HE := Lib.hid (err_at g l x w h)
  obtain ⟨v, hb, hv, _⟩ := h
  obtain ⟨A, c, rfl⟩ := hv.form
  have h1 : w.cell? ⟨g, 0, none⟩ = some (.slice A (bytesV l).length c) := by rw [cell_of_row w g 0 _ _ _ hb]; rfl
  rw [bytesV_len] at h1
  clear hb hv
  by_cases hx : x = 0
  · subst hx
    have HL : leftOf l 0 = l.length := by simp [leftOf]
    rw [HL]
    clear HL
    go_enter Tryd.func81, Tryd.ntmps81
    go_wp2_with (go_at_call 77; refine HE.out.mono ?_; rintro e w1 ⟨rfl, rfl⟩)
    go_ret
    exact ⟨rfl, rfl⟩
  · have HL : leftOf l x = 0 := by simp [leftOf, hx]
    rw [HL]
    clear HL
    have hx1 : (x != 0) = true := by simpa using hx
    go_enter Tryd.func81, Tryd.ntmps81
    go_wp2_with (go_at_call 77; refine HE.out.mono ?_; rintro e w1 ⟨rfl, rfl⟩)
    go_ret
    exact ⟨rfl, rfl⟩

/-- What a call on the Reader at g answers: the value, the bytes and the error that are there then. -/
def RdrOut (w : World) (g : Nat) (u : Value) (l : List UInt8) (x : Int) (e : Ending) (w' : World) : Prop :=
  e = .returned u ∧ Rdr w' g l x ∧ w.grownBy w' (some g)

def failOf (x y : Int) : Int := if x = 0 then y else x

set_option maxHeartbeats 400000 in
theorem fail_nil (y : Int) (w : World) :
    Calls Tryd.prog 89 #[.pointer none, .int .i64 y] w fun e w' => e = .returned (.tuple #[]) ∧ w = w' := by
  go_enter Tryd.func89, Tryd.ntmps89
  go_wp2_with (go_at_call 77; refine (err_nil _).mono ?_; rintro e w1 ⟨rfl, rfl⟩)
  go_end0
  exact ⟨rfl, rfl⟩

set_option maxHeartbeats 400000 in
theorem fail_at (g : Nat) (l : List UInt8) (x y : Int) (w : World) (h : Rdr w g l x) :
    Calls Tryd.prog 89 #[.pointer (some ⟨g, 0, none⟩), .int .i64 y] w (RdrOut w g (.tuple #[]) l (failOf x y)) := by
  have HE := Lib.hid (err_at g l x w h)
  have HR := Lib.hid h
  obtain ⟨v, hb, hv, hl⟩ := h
  by_cases hx : x = 0
  · subst hx
    have h1 : w.cell? ⟨g, 1, none⟩ = some (.int .i64 0) := by rw [cell_of_row w g 1 _ _ _ hb]; rfl
    have h2 : w.frozen? ⟨g, 1, none⟩ = false := by simp [World.frozen?, hb]
    have HB := Lib.hid hb
    clear hb
    go_enter Tryd.func89, Tryd.ntmps89
    go_wp2_with (go_at_call 77; refine HE.out.mono ?_; rintro e w1 ⟨rfl, rfl⟩)
    go_end0
    refine ⟨rfl, ⟨v, ?_, hv.grown (grown_set _ _ _ _) ?_, hl⟩, grown_set _ _ _ _⟩
    · rw [row_set HB.out]; rfl
    · intro b hb e
      have := hl b hb
      injection e
      omega
  · have hx1 : (x == 0) = false := by simpa using hx
    clear hb
    go_enter Tryd.func89, Tryd.ntmps89
    go_wp2_with (go_at_call 77; refine HE.out.mono ?_; rintro e w1 ⟨rfl, rfl⟩)
    go_end0
    refine ⟨rfl, ?_, grown_refl _ _⟩
    have : failOf x y = x := by simp [failOf, hx]
    rw [this]
    exact HR.out

def endOf (l : List UInt8) (x : Int) : Int := if x = 0 ∧ l ≠ [] then 5 else x

set_option maxHeartbeats 400000 in
theorem end_nil (w : World) :
    Calls Tryd.prog 54 #[.pointer none] w fun e w' => e = .returned (.int .i64 2) ∧ w = w' := by
  go_enter Tryd.func54, Tryd.ntmps54
  go_wp2_with (first | (go_at_call 81; refine (left_nil _).mono ?_; rintro e w1 ⟨rfl, rfl⟩) | (go_at_call 77; refine (err_nil _).mono ?_; rintro e w1 ⟨rfl, rfl⟩))
  go_ret
  exact ⟨rfl, rfl⟩

set_option maxHeartbeats 400000 in
theorem end_at (g : Nat) (l : List UInt8) (x : Int) (w : World) (h : Rdr w g l x) :
    Calls Tryd.prog 54 #[.pointer (some ⟨g, 0, none⟩)] w fun e w' => e = .returned (.int .i64 (endOf l x)) ∧ w = w' := by
  have HE := Lib.hid (err_at g l x w h)
  have HL := Lib.hid (left_at g l x w h)
  clear h
  by_cases hx : leftOf l x = 0
  · have he : endOf l x = x := by
      unfold leftOf at hx
      unfold endOf
      by_cases h0 : x = 0
      · rw [if_pos h0] at hx
        rw [if_neg]
        rintro ⟨_, h⟩
        exact h (List.length_eq_zero_iff.1 hx)
      · rw [if_neg]
        exact fun h => h0 h.1
    rw [he]
    clear he
    rw [hx] at HL
    clear hx
    go_enter Tryd.func54, Tryd.ntmps54
    go_wp2_with (first | (go_at_call 81; refine HL.out.mono ?_; rintro e w1 ⟨rfl, rfl⟩) | (go_at_call 77; refine HE.out.mono ?_; rintro e w1 ⟨rfl, rfl⟩))
    go_ret
    exact ⟨rfl, rfl⟩
  · have he : endOf l x = 5 := by
      unfold leftOf at hx
      unfold endOf
      by_cases h0 : x = 0
      · rw [if_pos h0] at hx
        rw [if_pos ⟨h0, fun h => hx (by rw [h]; rfl)⟩]
      · rw [if_neg h0] at hx
        exact absurd rfl hx
    rw [he]
    clear he
    have hx1 : 0 < leftOf l x := by omega
    generalize leftOf l x = k at *
    go_enter Tryd.func54, Tryd.ntmps54
    go_wp2_with (go_at_call 81; refine HL.out.mono ?_; rintro e w1 ⟨rfl, rfl⟩)
    go_ret
    exact ⟨rfl, rfl⟩
end Go.Proofs.YtiakkfcjdmecdaaDoor.O

/-
  octet.firstNumber over this program: the number at the beginning of bytes.
-/
namespace Go.Proofs.YtiakkfcjdmecdaaDoor.O
open Go.RowKit

/-- The number whose bytes come, with 'acc' of k bytes gone past; how many bytes it has; its error. -/
def fnum : Nat → Nat → Nat → List UInt8 → Nat × Nat × Int
  | 0, _, _, _ => (0, 0, 4)
  | _ + 1, _, _, [] => (0, 0, 2)
  | f + 1, k, acc, c :: r =>
    if 128 ≤ c.toNat then fnum f (k + 1) (acc + c.toNat % 128 * 128 ^ k) r
    else if c.toNat = 0 ∧ 0 < k then (0, 0, 4)
    else (acc + c.toNat % 128 * 128 ^ k, k + 1, 0)
def first (l : List UInt8) : Nat × Nat × Int := fnum 6 0 0 l

/-- What firstNumber answers. -/
def FirstOut (w : World) (p : Nat × Nat × Int) (e : Ending) (w' : World) : Prop :=
  e = .returned (.tuple #[.int .i64 p.1, .int .i64 p.2.1, .int .i64 p.2.2]) ∧ w = w'

theorem fnum_more {k acc : Nat} {y : UInt8} {r : List UInt8} (hk : k < 6) (h : 128 ≤ y.toNat) :
    fnum (6 - k) k acc (y :: r) = fnum (6 - (k + 1)) (k + 1) (acc + y.toNat % 128 * 128 ^ k) r := by
  obtain ⟨f, hf⟩ : ∃ f, 6 - k = f + 1 := ⟨5 - k, by omega⟩
  rw [hf, show 6 - (k + 1) = f by omega, fnum, if_pos h]
theorem fnum_form {k acc : Nat} {y : UInt8} {r : List UInt8} (hk : k < 6) (h : y.toNat = 0) (h0 : 0 < k) :
    fnum (6 - k) k acc (y :: r) = (0, 0, 4) := by
  obtain ⟨f, hf⟩ : ∃ f, 6 - k = f + 1 := ⟨5 - k, by omega⟩
  rw [hf, fnum, if_neg (by omega), if_pos ⟨h, h0⟩]
theorem fnum_last {k acc : Nat} {y : UInt8} {r : List UInt8} (hk : k < 6) (h : y.toNat < 128) (h0 : ¬ (y.toNat = 0 ∧ 0 < k)) :
    fnum (6 - k) k acc (y :: r) = (acc + y.toNat % 128 * 128 ^ k, k + 1, 0) := by
  obtain ⟨f, hf⟩ : ∃ f, 6 - k = f + 1 := ⟨5 - k, by omega⟩
  rw [hf, fnum, if_neg (by omega), if_neg h0]
theorem fnum_short {k acc : Nat} (hk : k < 6) : fnum (6 - k) k acc [] = (0, 0, 2) := by
  obtain ⟨f, hf⟩ : ∃ f, 6 - k = f + 1 := ⟨5 - k, by omega⟩
  rw [hf, fnum]

theorem ofInt64 (a : Nat) (ha : a < 9223372036854775808) : (BitVec.ofInt 64 (a : Int)).toNat = a := by
  rw [BitVec.ofInt_natCast, BitVec.toNat_ofNat]; exact Nat.mod_eq_of_lt (by omega)
theorem or_i64 (a b : Nat) (ha : a < 9223372036854775808) (hb : b < 9223372036854775808) : bits .or .i64 (a : Int) (b : Int) = ((a ||| b : Nat) : Int) := by
  have hx : a ||| b < 2 ^ 63 := Nat.or_lt_two_pow (by omega) (by omega)
  show IntKind.i64.wrap ((BitVec.ofInt 64 (a : Int) ||| BitVec.ofInt 64 (b : Int)).toNat : Int) = _
  rw [BitVec.toNat_or, ofInt64 a ha, ofInt64 b hb, IntKind.wrap_i64]
  omega
theorem or_add (a d i : Nat) (h : a < 2 ^ i) : a ||| d * 2 ^ i = a + d * 2 ^ i := by
  have := Nat.shiftLeft_add_eq_or_of_lt h d
  rw [Nat.shiftLeft_eq] at this
  rw [Nat.or_comm, ← this, Nat.add_comm]
theorem pow128 (k : Nat) : 2 ^ (7 * k) = 128 ^ k := by rw [Nat.pow_mul]
theorem put7 (acc d k : Nat) (hk : k < 6) (hacc : acc < 128 ^ k) :
    bits BinOp.or IntKind.i64 (acc : Int) (wrap64 ((d : Int) % 128 * 2 ^ (7 * k))) = ((acc + d % 128 * 128 ^ k : Nat) : Int) ∧ acc + d % 128 * 128 ^ k < 128 ^ (k + 1) := by
  have hp : (128 : Nat) ^ k ≤ 128 ^ 5 := Nat.pow_le_pow_right (by omega) (by omega)
  have h2 : d % 128 * 128 ^ k ≤ 127 * 128 ^ k := Nat.mul_le_mul_right _ (by omega)
  have e1 : ((d : Int) % 128 * 2 ^ (7 * k)) = ((d % 128 * 128 ^ k : Nat) : Int) := by
    rw [← pow128]
    push_cast
    rfl
  have h3 := or_add acc (d % 128) (7 * k) (by rw [pow128]; exact hacc)
  rw [pow128] at h3
  constructor
  · rw [e1]
    have e2 : wrap64 ((d % 128 * 128 ^ k : Nat) : Int) = ((d % 128 * 128 ^ k : Nat) : Int) := by unfold wrap64; omega
    rw [e2, or_i64 _ _ (by omega) (by omega), h3]
  · rw [Nat.pow_succ]
    omega

theorem put7_0 (acc k : Nat) (hk : k < 6) (hacc : acc < 128 ^ k) :
    bits BinOp.or IntKind.i64 (acc : Int) (wrap64 0) = ((acc + 0 % 128 * 128 ^ k : Nat) : Int) := by
  have h := (put7 acc 0 k hk hacc).1
  simpa using h

set_option maxHeartbeats 1000000 in
set_option maxRecDepth 100000 in
theorem first_any (v : Value) (l : List UInt8) (w : World) (hv : Rd w v (bytesV l)) (hl : l.length ≤ 140737488355328) :
    Calls Tryd.prog 88 #[v] w (FirstOut w (first l)) := by
  have HV := hv
  obtain ⟨A, c, rfl, hlc, hcm, _⟩ := hv
  rw [bytesV_len] at hlc HV ⊢
  have hc63 : (c : Int) ≤ 9223372036854775807 := by simp only [maxLen] at hcm; omega
  clear hcm
  generalize hn : l.length = n at *
  have HN := Lib.hid hn
  clear hn
  by_cases hn6 : n ≤ 6
  · go_enter Tryd.func88, Tryd.ntmps88
    go_wp2
    go_loop [2, 13] (fun a t => ∃ (k acc : Nat), k ≤ n ∧ t = .int .i64 k ∧ a = .int .i64 acc ∧ acc < 128 ^ k ∧ fnum (6 - k) k acc (l.drop k) = first l) (fun _ t => n - (intOf t).toNat)
    case atStart => exact ⟨0, 0, Nat.zero_le _, rfl, rfl, by simp, rfl⟩
    case round =>
      obtain ⟨k, acc, hk, rfl, rfl, hacc, hf⟩ := hrel
      have HA : Hid (acc < 128 ^ k) := hacc
      by_cases hlt : k < n
      · obtain ⟨ad, y, rfl, hd, hck⟩ := HV.at_ (k := k) (by rw [HN.out]; omega)
        rw [hd] at hf
        have hb : y.toNat < 256 := UInt8.toNat_lt _
        have HF := Lib.hid hf
        clear hf hd hacc
        go_wp2
        · have h7 := put7 acc y.toNat k (by omega) HA.out
          have hy : 128 ≤ y.toNat := by omega
          rw [fnum_more (by omega) hy] at HF
          exact ⟨⟨k + 1, _, by omega, by go_num, congrArg _ h7.1, h7.2, HF.out⟩, by simp [intOf]; omega⟩
        · rw [fnum_form (by omega) ‹_› ‹_›] at HF
          go_ret3
          exact ⟨by rw [← HF.out]; rfl, rfl⟩
        · have h7 := put7_0 acc k (by omega) HA.out
          have hy0 : y.toNat = 0 := ‹_›
          rw [fnum_last (by omega) (by omega) (by omega), hy0] at HF
          go_ret3
          exact ⟨by rw [← HF.out, h7]; rfl, rfl⟩
        · have h7 := put7 acc y.toNat k (by omega) HA.out
          rw [fnum_last (by omega) (by omega) (by omega)] at HF
          go_ret3
          exact ⟨by rw [← HF.out, h7.1]; rfl, rfl⟩
      · have hkn : k = n := by omega
        have hdr : l.drop k = [] := List.drop_eq_nil_of_le (by rw [HN.out]; omega)
        rw [hdr] at hf
        have HF := Lib.hid hf
        clear hf hdr hacc
        have HK := Lib.hid hkn
        clear hkn
        by_cases hn5 : n < 6
        · rw [fnum_short (by omega)] at HF
          go_wp2
          go_ret3
          exact ⟨by rw [← HF.out]; rfl, rfl⟩
        · have h6 : 6 - k = 0 := by omega
          rw [h6, fnum] at HF
          clear h6
          go_wp2
          go_ret3
          exact ⟨by rw [← HF.out]; rfl, rfl⟩
  · go_enter Tryd.func88, Tryd.ntmps88
    go_wp2
    go_loop [2, 13] (fun a t => ∃ (k acc : Nat), k ≤ 6 ∧ t = .int .i64 k ∧ a = .int .i64 acc ∧ acc < 128 ^ k ∧ fnum (6 - k) k acc (l.drop k) = first l) (fun _ t => 6 - (intOf t).toNat)
    case atStart => exact ⟨0, 0, Nat.zero_le _, rfl, rfl, by simp, rfl⟩
    case round =>
      obtain ⟨k, acc, hk, rfl, rfl, hacc, hf⟩ := hrel
      have HA : Hid (acc < 128 ^ k) := hacc
      by_cases hlt : k < 6
      · obtain ⟨ad, y, rfl, hd, hck⟩ := HV.at_ (k := k) (by rw [HN.out]; omega)
        rw [hd] at hf
        have hb : y.toNat < 256 := UInt8.toNat_lt _
        have HF := Lib.hid hf
        clear hf hd hacc
        go_wp2
        · have h7 := put7 acc y.toNat k (by omega) HA.out
          have hy : 128 ≤ y.toNat := by omega
          rw [fnum_more (by omega) hy] at HF
          exact ⟨⟨k + 1, _, by omega, by go_num, congrArg _ h7.1, h7.2, HF.out⟩, by simp [intOf]; omega⟩
        · rw [fnum_form (by omega) ‹_› ‹_›] at HF
          go_ret3
          exact ⟨by rw [← HF.out]; rfl, rfl⟩
        · have h7 := put7_0 acc k (by omega) HA.out
          have hy0 : y.toNat = 0 := ‹_›
          rw [fnum_last (by omega) (by omega) (by omega), hy0] at HF
          go_ret3
          exact ⟨by rw [← HF.out, h7]; rfl, rfl⟩
        · have h7 := put7 acc y.toNat k (by omega) HA.out
          rw [fnum_last (by omega) (by omega) (by omega)] at HF
          go_ret3
          exact ⟨by rw [← HF.out, h7.1]; rfl, rfl⟩
      · have h6 : 6 - k = 0 := by omega
        rw [h6, fnum] at hf
        have HF := Lib.hid hf
        clear hf h6 hacc
        go_wp2
        go_ret3
        exact ⟨by rw [← HF.out]; rfl, rfl⟩
end Go.Proofs.YtiakkfcjdmecdaaDoor.O

/-
  octet's Reader: take, over this program.
-/
namespace Go.Proofs.YtiakkfcjdmecdaaDoor.O
open Go.RowKit

/-- What is taken of n bytes, what is left, and the error. -/
def takeOf (l : List UInt8) (x : Int) (n : Nat) : List UInt8 × List UInt8 × Int :=
  if x = 0 then (if n ≤ l.length then (l.take n, l.drop n, 0) else ([], l, 2)) else ([], l, x)

def TakeOut (w : World) (g : Nat) (p : List UInt8 × List UInt8 × Int) (e : Ending) (w' : World) : Prop :=
  ∃ v, e = .returned v ∧ Rd w' v (bytesV p.1) ∧ (∀ b, v.ownBlock = some b → b < g) ∧ Rdr w' g p.2.1 p.2.2 ∧ w.grownBy w' (some g)

set_option maxHeartbeats 400000 in
theorem take_nil (n : Int) (w : World) :
    Calls Tryd.prog 90 #[.pointer none, .int .i64 n] w fun e w' => e = .returned (.slice none 0 0) ∧ w = w' := by
  by_cases h : 0 < n
  all_goals
    go_enter Tryd.func90, Tryd.ntmps90
    go_wp2_with (first | (go_at_call 81; refine (left_nil _).mono ?_; rintro e w1 ⟨rfl, rfl⟩) | (go_at_call 77; refine (err_nil _).mono ?_; rintro e w1 ⟨rfl, rfl⟩) | (go_at_call 89; refine (fail_nil _ _).mono ?_; rintro e w1 ⟨rfl, rfl⟩))
    go_ret
    exact ⟨rfl, rfl⟩

set_option maxHeartbeats 1000000 in
theorem take_at (g : Nat) (l : List UInt8) (x : Int) (n : Nat) (w : World) (h : Rdr w g l x) :
    Calls Tryd.prog 90 #[.pointer (some ⟨g, 0, none⟩), .int .i64 n] w (TakeOut w g (takeOf l x n)) := by
  have HR := h
  have HL := Lib.hid (left_at g l x w h)
  by_cases hx : x = 0
  · by_cases hn : n ≤ l.length
    · have hT : takeOf l x n = (l.take n, l.drop n, 0) := by unfold takeOf; rw [if_pos hx, if_pos hn]
      rw [hT]
      subst hx
      clear hT
      have hlo : leftOf l 0 = l.length := by unfold leftOf; rw [if_pos rfl]
      rw [hlo] at HL
      clear hlo
      have HE := Lib.hid (err_at g l 0 w h)
      obtain ⟨v, hb, hv, hlt⟩ := h
      have HV := hv
      obtain ⟨A, c, rfl⟩ := hv.form
      rw [bytesV_len] at HV hb hlt
      clear hv
      obtain ⟨_, hlc, hcm⟩ := HV.len
      have HCM : Hid (c ≤ maxLen) := hcm
      have hc63 : (c : Int) ≤ 9223372036854775807 := by simp only [maxLen] at hcm; omega
      have h1 : w.cell? ⟨g, 0, none⟩ = some (.slice A l.length c) := by rw [cell_of_row w g 0 _ _ _ hb]; rfl
      have h2 : w.frozen? ⟨g, 0, none⟩ = false := by simp [World.frozen?, hb]
      have HB := Lib.hid hb
      clear hb hcm
      generalize hm : l.length = m at *
      have HM := Lib.hid hm
      clear hm
      go_enter Tryd.func90, Tryd.ntmps90
      go_wp2_with (first | (go_at_call 81; refine HL.out.mono ?_; rintro e w1 ⟨rfl, rfl⟩) | (go_at_call 77; refine HE.out.mono ?_; rintro e w1 ⟨rfl, rfl⟩))
      · have hcn : c = n := by assumption
        have hmn : m = n := by omega
        go_ret
        have hd : l.drop n = [] := List.drop_eq_nil_of_le (by rw [HM.out]; omega)
        refine ⟨_, rfl, ?_, fun b hb => hlt b (by rw [← hb]; exact own_len _ _ _ _ _), ⟨_, by rw [row_set HB.out]; rfl, ?_, fun b hb => hlt b (by rw [← hb]; exact own_len _ _ _ _ _)⟩, grown_set _ _ _ _⟩
        · show Rd _ _ (List.map byteV (l.take n))
          rw [List.map_take]
          exact (HV.take hn (Nat.le_refl _) (by omega)).grown (grown_set _ _ _ _) (fun b hb e => by have := hlt b (by rw [← hb]; exact own_len _ _ _ _ _); injection e; omega)
        · show Rd _ _ (List.map byteV (l.drop n))
          rw [hd, show m - n = 0 by omega]
          exact Rd.empty _ _ _ (Nat.zero_le _)
      · go_ret
        refine ⟨_, rfl, ?_, fun b hb => hlt b (by rw [← hb]; exact own_len _ _ _ _ _), ⟨_, by rw [row_set HB.out]; rfl, ?_, fun b hb => hlt b (by rw [← hb]; exact (own_map _ _ _ _ _ _).symm)⟩, grown_set _ _ _ _⟩
        · show Rd _ _ (List.map byteV (l.take n))
          rw [List.map_take]
          exact (HV.take hn (Nat.le_refl _) (by omega)).grown (grown_set _ _ _ _) (fun b hb e => by have := hlt b (by rw [← hb]; exact own_len _ _ _ _ _); injection e; omega)
        · show Rd _ _ (List.map byteV (l.drop n))
          rw [List.map_drop]
          exact (HV.drop hn).grown (grown_set _ _ _ _) (fun b hb e => by have := hlt b (by rw [← hb]; exact (own_map _ _ _ _ _ _).symm); injection e; omega)
    · have hT : takeOf l x n = ([], l, 2) := by unfold takeOf; rw [if_pos hx, if_neg hn]
      rw [hT]
      subst hx
      clear hT
      have hlo : leftOf l 0 = l.length := by unfold leftOf; rw [if_pos rfl]
      rw [hlo] at HL
      clear hlo
      have HF := Lib.hid (fail_at g l 0 2 w h)
      clear h
      go_enter Tryd.func90, Tryd.ntmps90
      go_wp2_with (go_at_call 81; refine HL.out.mono ?_; rintro e w1 ⟨rfl, rfl⟩)
      refine HF.out.mono ?_
      rintro e w1 ⟨rfl, hr, hg⟩
      have HE := Lib.hid (err_at g l 2 w1 hr)
      go_wp2_with (go_at_call 77; refine HE.out.mono ?_; rintro e w2 ⟨rfl, rfl⟩)
      go_ret
      exact ⟨_, rfl, Rd.nil _, (fun b hb => by cases hb), hr, hg⟩
  · have hT : takeOf l x n = ([], l, x) := by unfold takeOf; rw [if_neg hx]
    rw [hT]
    clear hT
    have hlo : leftOf l x = 0 := by unfold leftOf; rw [if_neg hx]
    rw [hlo] at HL
    clear hlo
    have hx1 : (x != 0) = true := by simpa using hx
    by_cases hn : 0 < n
    · have HF := fail_at g l x 2 w h
      have hfo : failOf x 2 = x := by unfold failOf; rw [if_neg hx]
      rw [hfo] at HF
      have HF := Lib.hid HF
      clear h hfo
      go_enter Tryd.func90, Tryd.ntmps90
      go_wp2_with (go_at_call 81; refine HL.out.mono ?_; rintro e w1 ⟨rfl, rfl⟩)
      refine HF.out.mono ?_
      rintro e w1 ⟨rfl, hr, hg⟩
      have HE := Lib.hid (err_at g l x w1 hr)
      go_wp2_with (go_at_call 77; refine HE.out.mono ?_; rintro e w2 ⟨rfl, rfl⟩)
      go_ret
      exact ⟨_, rfl, Rd.nil _, (fun b hb => by cases hb), hr, hg⟩
    · have HE := Lib.hid (err_at g l x w h)
      obtain rfl : n = 0 := by omega
      clear h
      go_enter Tryd.func90, Tryd.ntmps90
      go_wp2_with (first | (go_at_call 81; refine HL.out.mono ?_; rintro e w1 ⟨rfl, rfl⟩) | (go_at_call 77; refine HE.out.mono ?_; rintro e w1 ⟨rfl, rfl⟩))
      go_ret
      exact ⟨_, rfl, Rd.nil _, (fun b hb => by cases hb), HR, grown_refl _ _⟩
end Go.Proofs.YtiakkfcjdmecdaaDoor.O

/-
  octet's Reader: Number, over this program.
-/
namespace Go.Proofs.YtiakkfcjdmecdaaDoor.O
open Go.RowKit

theorem fnum_size (f k acc : Nat) (l : List UInt8) (h : (fnum f k acc l).2.2 = 0) : (fnum f k acc l).2.1 ≤ k + l.length := by
  induction f generalizing k acc l with
  | zero => simp [fnum] at h
  | succ f ih =>
    cases l with
    | nil => simp [fnum] at h
    | cons c r =>
      rw [fnum] at h ⊢
      split
      · rename_i hc
        rw [if_pos hc] at h
        have := ih _ _ _ h
        simp only [List.length_cons]
        omega
      · rename_i hc
        rw [if_neg hc] at h
        split
        · simp
        · simp only [List.length_cons]; omega
theorem acc_lt (acc d k : Nat) (h : acc < 128 ^ k) : acc + d % 128 * 128 ^ k < 128 ^ (k + 1) := by
  have h2 : d % 128 * 128 ^ k ≤ 127 * 128 ^ k := Nat.mul_le_mul_right _ (by omega)
  rw [Nat.pow_succ]
  omega
theorem pow128_pos (k : Nat) : 0 < 128 ^ k := Nat.pow_pos (by omega)
theorem fnum_lt (f k acc : Nat) (l : List UInt8) (h : acc < 128 ^ k) : (fnum f k acc l).1 < 128 ^ (k + f) := by
  induction f generalizing k acc l with
  | zero => exact pow128_pos _
  | succ f ih =>
    cases l with
    | nil => exact pow128_pos _
    | cons c r =>
      have hs := acc_lt acc c.toNat k h
      rw [fnum]
      split
      · have := ih (k + 1) _ r hs
        rw [show k + (f + 1) = k + 1 + f by omega]
        exact this
      · split
        · exact pow128_pos _
        · exact Nat.lt_of_lt_of_le hs (Nat.pow_le_pow_right (by omega) (by omega))
theorem first_size (l : List UInt8) (h : (first l).2.2 = 0) : (first l).2.1 ≤ l.length := by
  have := fnum_size 6 0 0 l h
  rw [Nat.zero_add] at this
  exact this
theorem first_lt (l : List UInt8) : (first l).1 < 4398046511104 := fnum_lt 6 0 0 l (by decide)

/-- The number that is read, what is left, and the error. -/
def numOf (l : List UInt8) (x most : Int) : Nat × List UInt8 × Int :=
  if x = 0 then
    (if (first l).2.2 = 0 then (if most < (first l).1 ∨ 1099511627775 < (first l).1 then (0, l, 3) else ((first l).1, l.drop (first l).2.1, 0))
     else (0, l, (first l).2.2))
  else (0, l, x)

set_option maxHeartbeats 400000 in
theorem rnum_nil (most : Int) (w : World) :
    Calls Tryd.prog 76 #[.pointer none, .int .i64 most] w fun e w' => e = .returned (.int .i64 0) ∧ w = w' := by
  go_enter Tryd.func76, Tryd.ntmps76
  go_wp2_with (go_at_call 77; refine (err_nil _).mono ?_; rintro e w1 ⟨rfl, rfl⟩)
  go_ret
  exact ⟨rfl, rfl⟩

set_option maxHeartbeats 1000000 in
theorem rnum_at (g : Nat) (l : List UInt8) (x most : Int) (w : World) (h : Rdr w g l x) (hl : l.length ≤ 140737488355328) :
    Calls Tryd.prog 76 #[.pointer (some ⟨g, 0, none⟩), .int .i64 most] w (RdrOut w g (.int .i64 (numOf l x most).1) (numOf l x most).2.1 (numOf l x most).2.2) := by
  have HE := Lib.hid (err_at g l x w h)
  have HR := h
  by_cases hx : x = 0
  · subst hx
    have hF := first_lt l
    have hS := first_size l
    obtain ⟨v, hb, hv, hlt⟩ := h
    have HF := first_any v l w hv hl
    obtain ⟨A, c, rfl⟩ := hv.form
    rw [bytesV_len] at hb HF
    have h1 : w.cell? ⟨g, 0, none⟩ = some (.slice A l.length c) := by rw [cell_of_row w g 0 _ _ _ hb]; rfl
    clear hb hlt hv hl
    have hN : numOf l 0 most = (if (first l).2.2 = 0 then (if most < (first l).1 ∨ 1099511627775 < (first l).1 then (0, l, 3) else ((first l).1, l.drop (first l).2.1, 0)) else (0, l, (first l).2.2)) := by
      unfold numOf; rw [if_pos rfl]
    rw [hN]
    clear hN
    unfold FirstOut at HF
    generalize (first l).1 = n at *
    generalize (first l).2.1 = s at *
    generalize (first l).2.2 = y at *
    have HF0 := Lib.hid HF
    clear HF
    by_cases hy : y = 0
    · subst hy
      have hs := hS rfl
      clear hS
      by_cases hr : most < n ∨ 1099511627775 < n
      · rw [if_pos rfl, if_pos (by omega)]
        have HL := fail_at g l 0 3 w HR
        rw [show failOf 0 3 = 3 from rfl] at HL
        have HL0 := Lib.hid HL
        clear HL
        by_cases hm : 1099511627775 < most
        · have hn : 1099511627775 < (n : Int) := by omega
          clear hr
          go_enter Tryd.func76, Tryd.ntmps76
          go_wp2_with (first | (go_at_call 77; refine HE.out.mono ?_; rintro e w1 ⟨rfl, rfl⟩) | (go_at_call 88; refine HF0.out.mono ?_; rintro e w1 ⟨rfl, rfl⟩) | fail)
          refine HL0.out.mono ?_
          rintro e w1 ⟨rfl, hr1, hg1⟩
          go_wp2
          go_ret
          exact ⟨rfl, hr1, hg1⟩
        · have hn : most < (n : Int) := by omega
          clear hr
          go_enter Tryd.func76, Tryd.ntmps76
          go_wp2_with (first | (go_at_call 77; refine HE.out.mono ?_; rintro e w1 ⟨rfl, rfl⟩) | (go_at_call 88; refine HF0.out.mono ?_; rintro e w1 ⟨rfl, rfl⟩) | fail)
          refine HL0.out.mono ?_
          rintro e w1 ⟨rfl, hr1, hg1⟩
          go_wp2
          go_ret
          exact ⟨rfl, hr1, hg1⟩
      · rw [if_pos rfl, if_neg (by omega)]
        have HL := take_at g l 0 s w HR
        have hT : takeOf l 0 s = (l.take s, l.drop s, 0) := by unfold takeOf; rw [if_pos rfl, if_pos hs]
        rw [hT] at HL
        clear hT
        have HL0 := Lib.hid HL
        clear HL
        by_cases hm : 1099511627775 < most
        · have hn : ¬ 1099511627775 < (n : Int) := by omega
          have hn2 : decide (1099511627775 < (n : Int)) = false := by simpa using hn
          clear hr
          go_enter Tryd.func76, Tryd.ntmps76
          go_wp2_with (first | (go_at_call 77; refine HE.out.mono ?_; rintro e w1 ⟨rfl, rfl⟩) | (go_at_call 88; refine HF0.out.mono ?_; rintro e w1 ⟨rfl, rfl⟩) | fail)
          refine HL0.out.mono ?_
          rintro e w1 ⟨v1, rfl, _, _, hr1, hg1⟩
          go_wp2
          go_ret
          exact ⟨rfl, hr1, hg1⟩
        · have hn : ¬ most < (n : Int) := by omega
          have hn2 : decide (most < (n : Int)) = false := by simpa using hn
          clear hr
          go_enter Tryd.func76, Tryd.ntmps76
          go_wp2_with (first | (go_at_call 77; refine HE.out.mono ?_; rintro e w1 ⟨rfl, rfl⟩) | (go_at_call 88; refine HF0.out.mono ?_; rintro e w1 ⟨rfl, rfl⟩) | fail)
          refine HL0.out.mono ?_
          rintro e w1 ⟨v1, rfl, _, _, hr1, hg1⟩
          go_wp2
          go_ret
          exact ⟨rfl, hr1, hg1⟩
    · rw [if_neg hy]
      have HL := fail_at g l 0 y w HR
      rw [show failOf 0 y = y from rfl] at HL
      have HL0 := Lib.hid HL
      clear HL hS
      have hy1 : (y == 0) = false := by simpa using hy
      have hy2 : (y != 0) = true := by simpa using hy
      go_enter Tryd.func76, Tryd.ntmps76
      go_wp2_with (first | (go_at_call 77; refine HE.out.mono ?_; rintro e w1 ⟨rfl, rfl⟩) | (go_at_call 88; refine HF0.out.mono ?_; rintro e w1 ⟨rfl, rfl⟩) | fail)
      refine HL0.out.mono ?_
      rintro e w1 ⟨rfl, hr1, hg1⟩
      go_wp2
      go_ret
      exact ⟨rfl, hr1, hg1⟩
  · have hN : numOf l x most = (0, l, x) := by unfold numOf; rw [if_neg hx]
    rw [hN]
    clear hN
    have hx1 : (x != 0) = true := by simpa using hx
    clear h
    go_enter Tryd.func76, Tryd.ntmps76
    go_wp2_with (go_at_call 77; refine HE.out.mono ?_; rintro e w1 ⟨rfl, rfl⟩)
    go_ret
    exact ⟨rfl, HR, grown_refl _ _⟩
end Go.Proofs.YtiakkfcjdmecdaaDoor.O

/-
  What was put is read, and nothing else is read as it: of numbers' bytes.
-/
namespace Go.Proofs.YtiakkfcjdmecdaaDoor.O

theorem ofNat_of_toNat (c : UInt8) (n : Nat) (h : c.toNat = n) : UInt8.ofNat n = c := by
  subst h
  exact UInt8.ofNat_toNat

theorem fnum_enc (f k acc m : Nat) (r : List UInt8) (hf : (enc m).length ≤ f) (hk : 0 < k → 0 < m) :
    fnum f k acc (enc m ++ r) = (acc + m * 128 ^ k, k + (enc m).length, 0) := by
  induction f generalizing k acc m with
  | zero => have := enc_pos m; omega
  | succ f ih =>
    by_cases h : m < 128
    · rw [enc_small h]
      have hm : (UInt8.ofNat m).toNat = m := by rw [UInt8.toNat_ofNat']; omega
      show fnum (f + 1) k acc (UInt8.ofNat m :: r) = _
      rw [fnum, hm, if_neg (by omega), if_neg (by omega), Nat.mod_eq_of_lt h]
      rfl
    · have hb := enc_big (n := m) (by omega)
      rw [hb] at hf ⊢
      have hc : (UInt8.ofNat (128 + m % 128)).toNat = 128 + m % 128 := by rw [UInt8.toNat_ofNat']; omega
      show fnum (f + 1) k acc (UInt8.ofNat (128 + m % 128) :: (enc (m / 128) ++ r)) = _
      rw [fnum, hc, if_pos (by omega), ih (k + 1) _ (m / 128) (by simp only [List.length_cons] at hf; omega) (by omega)]
      have e : acc + (128 + m % 128) % 128 * 128 ^ k + m / 128 * 128 ^ (k + 1) = acc + m * 128 ^ k := by
        have e1 : (128 + m % 128) % 128 = m % 128 := by omega
        have e2 : m / 128 * 128 ^ (k + 1) = m / 128 * 128 * 128 ^ k := by rw [Nat.pow_succ, Nat.mul_comm (128 ^ k) 128, Nat.mul_assoc]
        have e3 : m % 128 * 128 ^ k + m / 128 * 128 * 128 ^ k = m * 128 ^ k := by
          rw [← Nat.add_mul]
          congr 1
          omega
        rw [e1, e2, Nat.add_assoc, e3]
      rw [e, List.length_cons]
      congr 2
      omega

theorem first_enc (m : Nat) (r : List UInt8) (hm : m ≤ 1099511627775) : first (enc m ++ r) = (m, (enc m).length, 0) := by
  have h6 : (enc m).length ≤ 6 := by
    have : ∀ k n : Nat, n < 128 ^ (k + 1) → (enc n).length ≤ k + 1 := by
      intro k
      induction k with
      | zero => intro n h; rw [enc_small (by simpa using h)]; simp
      | succ k ih =>
        intro n h
        by_cases hn : n < 128
        · rw [enc_small hn]; simp
        · rw [enc_big (by omega), List.length_cons]
          have := ih (n / 128) (by rw [Nat.div_lt_iff_lt_mul (by omega)]; rw [Nat.pow_succ] at h; exact h)
          omega
    exact this 5 m (by omega)
  unfold first
  rw [fnum_enc 6 0 0 m r h6 (by omega)]
  simp

theorem fnum_back (f k acc : Nat) (l : List UInt8) (h : (fnum f k acc l).2.2 = 0) :
    ∃ m t, (fnum f k acc l).1 = acc + m * 128 ^ k ∧ (fnum f k acc l).2.1 = k + t ∧ l.take t = enc m ∧ t ≤ l.length ∧ (0 < k → 0 < m) := by
  induction f generalizing k acc l with
  | zero => simp [fnum] at h
  | succ f ih =>
    cases l with
    | nil => simp [fnum] at h
    | cons c r =>
      rw [fnum] at h ⊢
      by_cases hc : 128 ≤ c.toNat
      · rw [if_pos hc] at h ⊢
        obtain ⟨m, t, h1, h2, h3, h4, h5⟩ := ih _ _ _ h
        have hm := h5 (by omega)
        have hcl := UInt8.toNat_lt c
        refine ⟨c.toNat % 128 + 128 * m, t + 1, ?_, by omega, ?_, by simp only [List.length_cons]; omega, by omega⟩
        · rw [h1, Nat.add_mul, Nat.pow_succ, Nat.add_assoc]
          congr 2
          rw [Nat.mul_comm (128 ^ k) 128, ← Nat.mul_assoc, Nat.mul_comm m 128]
        · rw [List.take_succ_cons, h3, enc_big (n := c.toNat % 128 + 128 * m) (by omega)]
          rw [show (c.toNat % 128 + 128 * m) / 128 = m by omega, ofNat_of_toNat c _ (by omega)]
      · rw [if_neg hc] at h ⊢
        by_cases hz : c.toNat = 0 ∧ 0 < k
        · rw [if_pos hz] at h; simp at h
        · rw [if_neg hz]
          refine ⟨c.toNat, 1, by rw [Nat.mod_eq_of_lt (by omega)], rfl, ?_, by simp, by omega⟩
          rw [enc_small (by omega), ofNat_of_toNat c _ rfl]
          simp

theorem first_back (l : List UInt8) (h : (first l).2.2 = 0) : l.take (first l).2.1 = enc (first l).1 ∧ (first l).2.1 ≤ l.length := by
  obtain ⟨m, t, h1, h2, h3, h4, _⟩ := fnum_back 6 0 0 l h
  unfold first
  rw [h1, h2]
  simp only [Nat.zero_add, Nat.pow_zero, Nat.mul_one]
  exact ⟨h3, h4⟩
end Go.Proofs.YtiakkfcjdmecdaaDoor.O
