/-
  octet.Fixed over this program.
-/
import Derived.Test.YtjcbdplbekecjaaPutCat
namespace Go.Proofs.Ytjcbdplbekecjaa
open Go.RowKit

theorem rd_two {w : World} {v v1 : Value} {b l : List UInt8} (h : Rd w v (bytesV b)) (h1 : Rd w v1 (bytesV l)) :
    ∀ (k : Nat) (x : Value) (y : List UInt8), [v, v1][k]? = some x → [b, l][k]? = some y → Rd w x (bytesV y) := by
  intro k x y hx hy
  match k with
  | 0 => simp at hx hy; subst hx hy; exact h
  | 1 => simp at hx hy; subst hx hy; exact h1
  | k + 2 => simp at hx
theorem rd_three {w : World} {v v1 v2 : Value} {b l m : List UInt8} (h : Rd w v (bytesV b)) (h1 : Rd w v1 (bytesV l)) (h2 : Rd w v2 (bytesV m)) :
    ∀ (k : Nat) (x : Value) (y : List UInt8), [v, v1, v2][k]? = some x → [b, l, m][k]? = some y → Rd w x (bytesV y) := by
  intro k x y hx hy
  match k with
  | 0 => simp at hx hy; subst hx hy; exact h
  | 1 => simp at hx hy; subst hx hy; exact h1
  | 2 => simp at hx hy; subst hx hy; exact h2
  | k + 3 => simp at hx
/-- The lowest k bytes of a number, the lowest first. -/
def low : Nat → Nat → List UInt8
  | 0, _ => []
  | k + 1, n => UInt8.ofNat n :: low k (n / 256)
theorem low_len (k n : Nat) : (low k n).length = k := by
  induction k generalizing n with
  | zero => rfl
  | succ k ih => simp [low, ih]
theorem low_snoc (k n : Nat) : low (k + 1) n = low k n ++ [UInt8.ofNat (n / 256 ^ k)] := by
  induction k generalizing n with
  | zero => simp [low]
  | succ k ih =>
    rw [low, ih (n / 256), low, Nat.div_div_eq_div_mul, Nat.pow_succ, Nat.mul_comm (256 ^ k) 256]
    rfl
def okWidth (n : Int) : Bool := decide (0 ≤ n ∧ n ≤ 8)
/-- How many bytes are put for a width. -/
def wid (n : Int) : Nat := if okWidth n then n.toNat else 0
set_option maxHeartbeats 400000 in
theorem rightWidth_any (n : Int) (w : World) :
    Calls Try.prog 63 #[.int .i64 n] w fun e w' => e = .returned (.bool (okWidth n)) ∧ w = w' := by
  by_cases h0 : 0 ≤ n
  · by_cases h8 : n ≤ 8
    · have : okWidth n = true := by simp [okWidth, *]
      rw [this]
      clear this
      go_enter Try.func63, Try.ntmps63
      go_wp2
      go_ret
      exact ⟨rfl, rfl⟩
    · have : okWidth n = false := by simp [okWidth]; omega
      rw [this]
      clear this
      go_enter Try.func63, Try.ntmps63
      go_wp2
      go_ret
      simp
  · have : okWidth n = false := by simp [okWidth, *]
    rw [this]
    clear this
    go_enter Try.func63, Try.ntmps63
    go_wp2
    go_ret
    exact ⟨rfl, rfl⟩
set_option maxHeartbeats 1000000 in
theorem fixed_any (v : Value) (b : List UInt8) (n : Nat) (k : Int) (w : World) (hv : Rd w v (bytesV b)) (hb : b.length ≤ 1099511627776) (hn : n < 18446744073709551616) :
    Calls Try.prog 48 #[v, .int .u64 n, .int .i64 k] w (Out w (b ++ low (wid k) n)) := by
  have hcase : (okWidth k = true ∧ k = (wid k : Int)) ∨ (okWidth k = false ∧ wid k = 0) := by
    unfold wid
    cases h : okWidth k
    · simp
    · simp only [okWidth, decide_eq_true_eq] at h; simp; omega
  have hle : wid k ≤ 8 := by
    unfold wid
    cases h : okWidth k
    · simp
    · simp only [okWidth, decide_eq_true_eq] at h; simp; omega
  generalize wid k = K at *
  have HV := hv
  obtain ⟨A, c, rfl⟩ := hv.form
  have HN : Hid (n < 18446744073709551616) := hn
  have HB : Hid (b.length ≤ 1099511627776) := hb
  clear hv hb hn
  rcases hcase with ⟨h1, h2⟩ | ⟨h1, h2⟩
  · subst h2
    go_enter Try.func48, Try.ntmps48
    go_wp2_with (go_at_call 63; refine (rightWidth_any _ _).mono ?_; rintro e w1 ⟨rfl, rfl⟩)
    go_loopw [1, 7, 12] (fun a s t W => ∃ (j m : Nat), j ≤ K ∧ t = .int .i64 j ∧ a = .int .u64 m ∧ m = n / 256 ^ j ∧ W.ownsRow w.heap.size 5 1 s j (bytesV (low j n)) ∧ w.grownBy W none) (fun _ _ t _ => K - (intOf t).toNat)
    case atStart => exact ⟨0, n, Nat.zero_le _, rfl, rfl, by simp, World.ownsRow_nil _ _ _ _, grown_refl _ _⟩
    case round =>
      obtain ⟨j, m, hj, rfl, rfl, hm, hown, hgr⟩ := hrel
      have HM := Lib.hid hm
      clear hm
      obtain ⟨i, hi, hz, hs1, hb⟩ := info5
      have HI := Lib.hid (And.intro hi (And.intro hz (And.intro hs1 hb)))
      clear hb hi hz hs1
      by_cases hlt : j < K
      · have hE := low_snoc j n
        rw [← HM.out] at hE
        have hx : (m : Int) % 256 = ((UInt8.ofNat m).toNat : Int) := by rw [UInt8.toNat_ofNat']; omega
        generalize UInt8.ofNat m = x at hE hx
        have HX := Lib.hid hx
        have HE := Lib.hid hE
        clear hx hE
        go_wp2_with (at_builtin; refine wpList_append_rd _ rfl _ _ _ rfl w.heap.size 5 i (.int .u8 0) 1 Try.underlying24 HI.out.1 HI.out.2.1 HI.out.2.2.1 HI.out.2.2.2 rfl _ j _ rfl (hown.alloc _) _ [byteV x] rfl ?_ (fun x hx => by simp at hx; subst hx; rfl) ?_ ?_ ?_ ?_)
        · rw [HX.out]; exact Rd.one _ _ _
        · simp; omega
        · simp; omega
        · have := hgr.size; simp; omega
        · intro v' w' ho hg hat
          go_wp2
          go_roundw
          case rel => 
            refine ⟨j + 1, m / 256, by omega, by go_num, ?_, ?_, ?_, ?_⟩
            · go_num
            · rw [HM.out, Nat.div_div_eq_div_mul, Nat.pow_succ]
            · rw [HE.out, bytesV_app]; exact ho
            · exact grown_new (grown_alloc hgr _) hg fun b hb => (hown.lt b hb).1
          case measure => simp [intOf]; omega
      · have hjK : j = K := by omega
        have HJ := Lib.hid hjK
        clear hjK
        have HR := Rd.of_own hown
        have HO := Lib.hid hown
        clear hown
        obtain ⟨A1, c1, rfl⟩ := HR.form
        go_wp2_with fail
        refine (concat_any wr.heap.size [_, _] [b, low j n] _ (heap_alloc_new wr _) rfl (rd_two ((HV.grown0 hgr).grown0 (grown_alloc (grown_refl _ _) _)) (HR.grown0 (grown_alloc (grown_refl _ _) _))) ?_ (by simp)).mono ?_
        · have h1 := HB.out
          have h2 := low_len j n
          simp; omega
        · rintro e w2 ⟨v2, rfl, hr2, hg2, hf2⟩
          go_wp2
          go_ret
          refine ⟨_, rfl, by rw [← HJ.out]; simpa using hr2, grown_new (grown_alloc hgr _) hg2 (fun _ h => by cases h), ?_⟩
          intro x hx
          have := hf2 x hx
          have := hgr.size
          simp at *
          omega
  · subst h2
    go_enter Try.func48, Try.ntmps48
    go_wp2_with (go_at_call 63; refine (rightWidth_any _ _).mono ?_; rintro e w1 ⟨rfl, rfl⟩)
    go_loopw [1, 7, 12] (fun a s t W => a = .int .u64 n ∧ t = .int .i64 0 ∧ s = .slice none 0 0 ∧ w = W) (fun _ _ _ _ => 0)
    case atStart => exact ⟨rfl, rfl, rfl, rfl⟩
    case round =>
      obtain ⟨rfl, rfl, rfl, rfl⟩ := hrel
      go_wp2_with fail
      refine (concat_any w.heap.size [_, _] [b, []] _ (heap_alloc_new w _) rfl (rd_two (HV.grown0 (grown_alloc (grown_refl _ _) _)) (Rd.nil _)) ?_ (by simp)).mono ?_
      · have h1 := HB.out
        simp; omega
      · rintro e w2 ⟨v2, rfl, hr2, hg2, hf2⟩
        go_wp2
        go_ret
        refine ⟨_, rfl, by simpa [low] using hr2, grown_new (grown_alloc (grown_refl _ _) _) hg2 (fun _ h => by cases h), ?_⟩
        intro x hx
        have := hf2 x hx
        simp at *
        omega
end Go.Proofs.Ytjcbdplbekecjaa
