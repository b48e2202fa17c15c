/-
  derive.following and derive.Key over this program.
-/
import Derived.Test.YtmhcfbfdbminnaaDoorDerFol
namespace Go.Proofs.YtmhcfbfdbminnaaDoor
open Go.RowKit

/-- What derive.following answers. -/
def Made (w : World) (p q : List UInt8) (e : Ending) (w' : World) : Prop :=
  e = .returned (.func (.func 32) #[] #[.pointer (some ⟨w.heap.size + 3, 0, none⟩), .pointer (some ⟨w.heap.size, 0, none⟩), .pointer (some ⟨w.heap.size + 2, 0, none⟩), .pointer (some ⟨w.heap.size + 1, 0, none⟩)]) ∧
    Fol w' (w.heap.size + 3) w.heap.size (w.heap.size + 2) (w.heap.size + 1) p q 0 ∧ w.grownBy w' none ∧ Row w' (w.heap.size + 2) 22 [.slice none 0 0]

set_option maxHeartbeats 4000000 in
theorem following_any (p : List UInt8) (A : Option Addr) (n c : Nat) (q : List UInt8) (w : World) (hT : Tab w) (hr : Rd w (.slice A n c) (bytesV q)) :
    Calls Tryd.prog 21 #[.agg (bytesV p).toArray, .slice A n c] w (Made w p q) := by
  have HR := Lib.hid hr
  have HT := Lib.hid hT
  have hmf : ∀ (fn : Fn) (first cap : Array Value) (w : World), (Instr.makeFunc fn first cap).run Tryd.prog w = .ok (.func fn first cap) w := fun _ _ _ _ => rfl
  have hg := grown_alloc (grown_alloc (grown_alloc (grown_alloc (grown_refl w none) (.cells (bytesV p).toArray 24)) (.cells #[.slice A n c] 22)) (.cells #[.slice none 0 0] 22)) (.cells #[.int .u8 0] 5)
  have HG := Lib.hid hg
  have r0 := (((Row.new w 24 (bytesV p)).alloc (.cells #[.slice A n c] 22)).alloc (.cells #[.slice none 0 0] 22)).alloc (.cells #[.int .u8 0] 5)
  have r1 := ((Row.newAt (w.alloc (.cells (bytesV p).toArray 24)) 22 [.slice A n c] (g := w.heap.size + 1) (by simp)).alloc (.cells #[.slice none 0 0] 22)).alloc (.cells #[.int .u8 0] 5)
  have r2 := (Row.newAt ((w.alloc (.cells (bytesV p).toArray 24)).alloc (.cells #[.slice A n c] 22)) 22 [.slice none 0 0] (g := w.heap.size + 2) (by simp)).alloc (.cells #[.int .u8 0] 5)
  have r3 := Row.newAt (((w.alloc (.cells (bytesV p).toArray 24)).alloc (.cells #[.slice A n c] 22)).alloc (.cells #[.slice none 0 0] 22)) 5 [.int .u8 0] (g := w.heap.size + 3) (by simp)
  have HR0 := Lib.hid r0
  have HR1 := Lib.hid r1
  have HR2 := Lib.hid r2
  have HR3 := Lib.hid r3
  have hpos := hT.pos
  have HPOS := Lib.hid hpos
  clear hr hT hg r0 r1 r2 r3 hpos
  go_enter Tryd.func21, Tryd.ntmps21
  go_wp2
  go_ret
  have h0 := HPOS.out
  exact ⟨rfl, ⟨HR3.out, HR0.out, ⟨_, HR2.out, Rd.nil _, fun h => absurd rfl h⟩, ⟨_, HR1.out, HR.out.grown0 HG.out, fun hn => ⟨fun e => by have := HR.out.low hn _ e; omega, fun e => by have := HR.out.low hn _ e; omega⟩⟩, by omega⟩, HG.out, HR2.out⟩

theorem splice_bytes (L cs : List UInt8) (off : Nat) : splice (bytesV L) off (bytesV cs) = bytesV (splice L off cs) := by
  simp [splice, bytesV, List.map_take, List.map_drop]
/-- The key behind i parts: noughts where none is yet. -/
def keyd (p q : List UInt8) (n i : Nat) : List UInt8 := (parts p q i).take n ++ List.replicate (n - 32 * i) 0
theorem keyd_step (p q : List UInt8) (n i : Nat) (h : 32 * i < n) : splice (bytesV (keyd p q n i)) (32 * i) (bytesV ((part p q (i + 1)).take (n - 32 * i))) = bytesV (keyd p q n (i + 1)) := by
  rw [splice_bytes]
  congr 1
  have hpl := parts_len p q i
  have hq := part_len p q i
  have e1 : keyd p q n i = parts p q i ++ List.replicate (n - 32 * i) 0 := by
    unfold keyd
    rw [List.take_of_length_le (by omega)]
  have e2 : keyd p q n (i + 1) = parts p q i ++ ((part p q (i + 1)).take (n - 32 * i) ++ List.replicate (n - 32 * (i + 1)) 0) := by
    unfold keyd
    rw [parts, List.take_append, List.take_of_length_le (by omega), hpl, List.append_assoc]
  have e3 : (parts p q i ++ List.replicate (n - 32 * i) (0 : UInt8)).take (32 * i) = parts p q i := by
    rw [List.take_append_of_le_length (by omega), List.take_of_length_le (by omega)]
  unfold splice
  rw [e2, e1, e3, List.drop_append, List.drop_of_length_le (by omega), List.nil_append, List.drop_replicate, List.length_take, hq, hpl]
  congr 3
  omega
theorem keyd_len (p q : List UInt8) (n i : Nat) (h : 32 * i ≤ n) : (keyd p q n i).length = n := by
  unfold keyd
  rw [List.length_append, List.length_take, parts_len, List.length_replicate]
  omega
theorem keyd_len' (p q : List UInt8) (n i : Nat) : (keyd p q n i).length = n := by
  unfold keyd
  rw [List.length_append, List.length_take, parts_len, List.length_replicate]
  omega
theorem keyd_all (s t q : List UInt8) (n i : Nat) (h : n ≤ 32 * i) : keyd (hmac t s) q n i = derived s t q n := by
  unfold keyd
  rw [show n - 32 * i = 0 by omega, List.replicate_zero, List.append_nil, derived_of s t q n i h]

theorem Row.of_own {w : World} {base g n : Nat} {e : TypeId} {xs : List Value} (h : w.ownsRow base e 1 (.slice (some ⟨g, 0, none⟩) n n) n xs) : Row w g e xs := by
  obtain ⟨_, h⟩ := h
  rcases h with ⟨h, _⟩ | ⟨g', cap, cur, h, _, hg, _, _, hs, ht⟩
  · cases h
  · injection h with h1 h2 h3
    injection h1 with h1
    injection h1 with h1
    subst h1 h3
    have e1 : cur.toList = xs := by
      rw [← ht, List.take_of_length_le]
      simp [hs]
    unfold Row
    rw [hg, ← e1]

/-- What derive.Key answers: a row of its own. -/
def KeyOut (w : World) (l : List UInt8) (e : Ending) (w' : World) : Prop :=
  ∃ g, e = .returned (.slice (some ⟨g, 0, none⟩) l.length l.length) ∧ Rd w' (.slice (some ⟨g, 0, none⟩) l.length l.length) (bytesV l) ∧ w.grownBy w' none ∧ w.heap.size ≤ g ∧ g < w'.heap.size

/-- What stands in memory in the midst of derive.Key. -/
structure Keying (w W : World) (gk gc gu gl gp : Nat) (p q : List UInt8) (n i : Nat) (r : Value) : Prop where
  fol : Fol W gc gu gl gp p q i
  key : Row W gk 5 (bytesV (keyd p q n i))
  rest : ∃ ad, r = .slice (some ad) (n - 32 * i) (n - 32 * i) ∧ (32 * i < n → ad = ⟨gk, 32 * i, none⟩)
  last : ∀ u, Row W gl 22 [u] → u.ownBlock ≠ some gk
  purp : ∀ u, Row W gp 22 [u] → q ≠ [] → u.ownBlock ≠ some gk
  grow : w.grownBy W none

set_option maxHeartbeats 4000000 in
theorem key_at (A0 : Option Addr) (n0 c0 : Nat) (s : List UInt8) (A1 : Option Addr) (n1 c1 : Nat) (t : List UInt8) (A2 : Option Addr) (n2 c2 : Nat) (q : List UInt8) (n : Nat) (w : World) (hT : Tab w)
    (hr0 : Rd w (.slice A0 n0 c0) (bytesV s)) (hr1 : Rd w (.slice A1 n1 c1) (bytesV t)) (hr2 : Rd w (.slice A2 n2 c2) (bytesV q)) (hn : n ≤ 8160) (h0 : n0 ≤ 1000000) (h1 : n1 ≤ 1000000) (h2 : n2 ≤ 1000000) :
    Calls Tryd.prog 13 #[.slice A0 n0 c0, .slice A1 n1 c1, .slice A2 n2 c2, .int .i64 (n : Int)] w (KeyOut w (derived s t q n)) := by
  have HT := Lib.hid hT
  have HR2 := Lib.hid hr2
  have hb1 : decide ((n : Int) < 0) = false := by simp
  have hb2 : decide (8160 < (n : Int)) = false := by simp; omega
  have hl0 := hr0.len.1
  have hl2 := hr2.len.1
  rw [bytesV_len] at hl0 hl2
  have HQ := Lib.hid (show q.length ≤ 1000000 by omega)
  have HG0 := Lib.hid (grown_alloc (grown_refl w none) (.cells #[.slice A0 n0 c0] 22))
  have hcode := code_any A1 n1 c1 t (.slice (some ⟨w.heap.size, 0, none⟩) 1 1) [.slice A0 n0 c0] [s] (w.alloc (.cells #[.slice A0 n0 c0] 22)) (hT.grown HG0.out) (hr1.grown0 HG0.out) (Rd.newAt w [.slice A0 n0 c0] 22 1 (Nat.le_refl _) (by decide) rfl)
    (Parts.cons (hr0.grown0 HG0.out) (Parts.nil _)) h1 (by simp) (by simp; omega)
  rw [show [s].flatten = s by simp] at hcode
  have HCODE := Lib.hid hcode
  have HDK := Lib.hid (fun i (h : n ≤ 32 * i) => keyd_all s t q n i h)
  have HPL := Lib.hid (hmac_len t s)
  generalize hmac t s = p at *
  clear hcode hT hr0 hr1 hr2 h0 h1 h2 hl0 hl2
  go_enter Tryd.func13, Tryd.ntmps13
  go_wp2_with fail
  refine HCODE.out.mono ?_
  rintro e w1 ⟨rfl, hg1⟩
  have HG1 := Lib.hid (HG0.out.trans hg1)
  clear hg1 HCODE HG0
  have HFOL := Lib.hid (following_any p A2 n2 c2 q w1 (HT.out.grown HG1.out) (HR2.out.grown0 HG1.out))
  go_wp2_with fail
  refine HFOL.out.mono ?_
  rintro e w2 ⟨rfl, hF2, hg2, hl2⟩
  have HF2 := Lib.hid hF2
  have HLL := Lib.hid hl2
  have HG2 := Lib.hid (HG1.out.trans hg2)
  clear hF2 hg2 hl2 HFOL
  go_wp2_with (refine wpList_make_bytes _ rfl _ _ rfl n n rfl rfl (Nat.le_refl _) (by omega) ?_)
  intro w3 ho3 hg3
  have r3 := Row.of_own ho3
  have hF3 := HF2.out.grown hg3
  have hK3 : Keying w w3 w2.heap.size (w1.heap.size + 3) w1.heap.size (w1.heap.size + 2) (w1.heap.size + 1) p q n 0 (.slice (some ⟨w2.heap.size, 0, none⟩) n n) := by
    refine ⟨hF3, ?_, ⟨_, rfl, fun _ => rfl⟩, ?_, ?_, HG2.out.trans hg3⟩
    · have e : keyd p q n 0 = List.replicate n 0 := by simp [keyd, parts]
      rw [e]
      exact r3
    · intro u hu
      have e := (HLL.out.grown0 hg3).symm.trans hu
      simp only [Option.some.injEq, Obj.cells.injEq, and_true] at e
      have e2 : u = .slice none 0 0 := by simpa using e.symm
      rw [e2]
      simp [Value.ownBlock]
    · intro u hu hne
      obtain ⟨u', h1, h2, h3⟩ := HF2.out.purp
      have e := (h1.grown0 hg3).symm.trans hu
      simp only [Option.some.injEq, Obj.cells.injEq, and_true] at e
      have e2 : u = u' := by simpa using e.symm
      subst e2
      intro e3
      have := h2.low hne _ e3
      omega
  have HNE := Lib.hid (show w1.heap.size + 3 < w2.heap.size from HF2.out.count.lt)
  have HK3 := Lib.hid hK3
  have HW1 := Lib.hid HG1.out.size
  generalize w1.heap.size = G1 at *
  generalize hgk : w2.heap.size = gk at *
  have HGK := Lib.hid (show w.heap.size ≤ gk from hgk ▸ HG2.out.size)
  clear ho3 hg3 r3 hF3 hK3 HF2 HG2 HG1 hgk HLL
  go_wp2
  go_loopw [11] (fun r W => ∃ i : Nat, Keying w W gk (G1 + 3) G1 (G1 + 2) (G1 + 1) p q n i r) (fun r _ => match r with | .slice _ m _ => m | _ => 0)
  case atStart => exact ⟨0, HK3.out⟩
  case round =>
    clear HK3
    obtain ⟨i, hK⟩ := hrel
    have HK := Lib.hid hK
    obtain ⟨ad, rfl, had⟩ := hK.rest
    have HAD := Lib.hid had
    clear hK had
    by_cases hlt : 32 * i < n
    · have hb : 0 < n - 32 * i := by omega
      have hTr := HT.out.grown HK.out.grow
      have HFA := Lib.hid (fol_any (G1 + 3) G1 (G1 + 2) (G1 + 1) p q i wr hTr HK.out.fol (by omega) HPL.out HQ.out)
      obtain rfl := HAD.out hlt
      have HSTEP := Lib.hid (keyd_step p q n i hlt)
      have HM := Lib.hid (show 32 * i + (n - 32 * i) = n by omega)
      generalize n - 32 * i = m at *
      clear hTr
      go_wp2_with fail
      refine HFA.out.mono ?_
      rintro e w4 ⟨rfl, hF4, hX4, hl4⟩
      have hk4 : Row w4 gk 5 (bytesV (keyd p q n i)) := (hX4.block gk HK.out.key.lt (by have := HNE.out; simp; omega)).trans HK.out.key
      have hlast4 : ∀ u, Row w4 (G1 + 2) 22 [u] → u.ownBlock ≠ some gk := fun u hu e => by have := hl4 u hu gk e; have := HK.out.key.lt; omega
      have hpurp4 : ∀ u, Row w4 (G1 + 1) 22 [u] → q ≠ [] → u.ownBlock ≠ some gk := fun u hu hne => by
        refine HK.out.purp u ?_ hne
        obtain ⟨u', h1, _⟩ := HK.out.fol.purp
        exact (hX4.block (G1 + 1) h1.lt (by simp)).symm.trans hu
      have hgr4 : w.grownBy w4 none := ⟨hX4.os.trans HK.out.grow.os, hX4.tape.trans HK.out.grow.tape, hX4.output.trans HK.out.grow.output, Nat.le_trans HK.out.grow.size hX4.size, fun k hk _ => (hX4.block k (Nat.lt_of_lt_of_le hk HK.out.grow.size) (by have := HW1.out; simp; omega)).trans (HK.out.grow.block k hk (by simp))⟩
      have HF4 := Lib.hid hF4
      have RK4 := Lib.hid hk4
      have HL4 := Lib.hid hlast4
      have HP4 := Lib.hid hpurp4
      have HGR4 := Lib.hid hgr4
      have HL32 := Lib.hid (show (bytesV (part p q (i + 1))).length = 32 by rw [bytesV_len, part_len])
      have hsl := slice_arr32 w4.heap.size
      clear hF4 hX4 hl4 hk4 hlast4 hpurp4 hgr4 HFA HK
      go_wp2_with (refine wpList_store_row _ rfl rfl _ _ _ rfl w4.heap.size 24 (noughts8 32) (bytesV (part p q (i + 1))) rfl rfl (Row.new w4 24 (noughts8 32)) (by rw [HL32.out]; rfl) (bytesV_one _) (by rw [HL32.out]; kernel_rfl) ?_; intro w5 hr5 hg5)
      have hg45 : w4.grownBy w5 none := grown_own (grown_alloc (grown_refl _ _) _) hg5 (Nat.le_refl _)
      have hkl : (bytesV (keyd p q n i)).length = n := by rw [bytesV_len, keyd_len']
      obtain ⟨w6, hrun, hr6, hg6⟩ := run_copy_rd w5 3 gk (32 * i) m m _ (part p q (i + 1)) (hr5.rds 32 32 HL32.out (by decide) (by decide)) (bytesV (keyd p q n i)) 5 (RK4.out.grown0 hg45) (by rw [hkl, HM.out]; exact Nat.le_refl _)
      rw [hrun]
      rw [HSTEP.out] at hr6
      rw [part_len]
      have hF5 := HF4.out.grown hg45
      have hneq := HNE.out
      have hrowl : ∀ u, Row w5 (G1 + 2) 22 [u] → u.ownBlock ≠ some gk := fun u hu => HL4.out u (by
        obtain ⟨u', h1, _⟩ := HF4.out.last
        exact (hg45.block _ h1.lt (by simp)).symm.trans hu)
      have hrowp : ∀ u, Row w5 (G1 + 1) 22 [u] → q ≠ [] → u.ownBlock ≠ some gk := fun u hu => HP4.out u (by
        obtain ⟨u', h1, _⟩ := HF4.out.purp
        exact (hg45.block _ h1.lt (by simp)).symm.trans hu)
      have hF6 := hF5.other hg6 (by omega) (fun u hu _ => hrowl u hu) hrowp
      have hgr6 : w.grownBy w6 none := grown_own (HGR4.out.trans hg45) hg6 HGK.out
      have hl6 : ∀ u, Row w6 (G1 + 2) 22 [u] → u.ownBlock ≠ some gk := fun u hu => hrowl u (by
        obtain ⟨u', h1, _⟩ := hF5.last
        exact (hg6.block _ h1.lt (by simp; omega)).symm.trans hu)
      have hp6 : ∀ u, Row w6 (G1 + 1) 22 [u] → q ≠ [] → u.ownBlock ≠ some gk := fun u hu => hrowp u (by
        obtain ⟨u', h1, _⟩ := hF5.purp
        exact (hg6.block _ h1.lt (by simp; omega)).symm.trans hu)
      have HK6 := Lib.hid (fun r (h : ∃ ad, r = .slice (some ad) (n - 32 * (i + 1)) (n - 32 * (i + 1)) ∧ (32 * (i + 1) < n → ad = ⟨gk, 32 * (i + 1), none⟩)) => (Keying.mk hF6 hr6 h hl6 hp6 hgr6 : Keying w w6 gk (G1 + 3) G1 (G1 + 2) (G1 + 1) p q n (i + 1) r))
      clear hF6 hr6 hl6 hp6 hgr6 hF5 hrowl hrowp hg6 hrun hkl hg45 hr5 hg5 hneq HF4 RK4 HL4 HP4 HGR4 HSTEP HL32
      by_cases hfull : m ≤ 32
      · have hmin : ((min 32 m : Nat) : Int) = (m : Int) := by omega
        rw [hmin]
        go_wp2
        have hm := HM.out
        exact ⟨⟨i + 1, HK6.out _ ⟨⟨gk, 32 * i, none⟩, by rw [show n - 32 * (i + 1) = 0 by omega], fun h => by omega⟩⟩, by show 0 < m; omega⟩
      · have hmin : ((min 32 m : Nat) : Int) = 32 := by omega
        rw [hmin]
        go_wp2
        have hm := HM.out
        exact ⟨⟨i + 1, HK6.out _ ⟨⟨gk, 32 * i + 32, none⟩, by rw [show n - 32 * (i + 1) = m - 32 by omega], fun _ => by rw [show 32 * (i + 1) = 32 * i + 32 by omega]⟩⟩, by show m - 32 < m; omega⟩
    · have hb : n - 32 * i = 0 := by omega
      have hall := HDK.out i (by omega)
      rw [hb]
      go_wp2
      go_ret
      have hk := HK.out.key
      rw [hall] at hk
      refine ⟨gk, ?_, ?_, HK.out.grow, HGK.out, hk.lt⟩
      · rw [derived_len]; rfl
      · rw [derived_len]
        exact hk.rds n n (by rw [bytesV_len, derived_len]) (Nat.le_refl _) (by unfold maxLen; omega)
theorem key_any (A0 : Option Addr) (n0 c0 : Nat) (s : List UInt8) (A1 : Option Addr) (n1 c1 : Nat) (t : List UInt8) (A2 : Option Addr) (n2 c2 : Nat) (q : List UInt8) (n : Nat) (w : World) (hT : Tab w)
    (hr0 : Rd w (.slice A0 n0 c0) (bytesV s)) (hr1 : Rd w (.slice A1 n1 c1) (bytesV t)) (hr2 : Rd w (.slice A2 n2 c2) (bytesV q)) (hn : n ≤ 8160) (h0 : n0 ≤ 1000000) (h1 : n1 ≤ 1000000) (h2 : n2 ≤ 1000000) :
    Calls Tryd.prog 13 #[.slice A0 n0 c0, .slice A1 n1 c1, .slice A2 n2 c2, .int .i64 (n : Int)] w (Out w (derived s t q n)) := by
  refine (key_at A0 n0 c0 s A1 n1 c1 t A2 n2 c2 q n w hT hr0 hr1 hr2 hn h0 h1 h2).mono ?_
  rintro e w' ⟨g, rfl, hr, hg, h1, h2⟩
  exact ⟨_, rfl, hr, hg, fun b hb => by simp [Value.ownBlock] at hb; omega⟩
end Go.Proofs.YtmhcfbfdbminnaaDoor
