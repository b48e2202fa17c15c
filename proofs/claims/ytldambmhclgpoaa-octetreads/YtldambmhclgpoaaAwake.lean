/-
  Bytes as strings; what 'awake' answers: true, for it turns nothing old.
-/
import Derived.Test.YtldambmhclgpoaaRFix
namespace Go.Proofs.Ytldambmhclgpoaa
open Go.RowKit

theorem foldl_push (l : List UInt8) (s : ByteArray) : (l.map fun c => (c.toNat : Int)).foldl (fun r n => r.push (UInt8.ofNat n.toNat)) s = ⟨s.data ++ l.toArray⟩ := by
  induction l generalizing s with
  | nil => simp
  | cons c l ih =>
    rw [List.map_cons, List.foldl_cons, ih]
    congr 1
    simp [ByteArray.push]

theorem run_str {w : World} {A : Option Addr} {n c : Nat} {l : List UInt8} (h : Rd w (.slice A n c) (bytesV l)) :
    (convert 22 9 (.slice A n c)).run Try.prog w = .ok (.string ⟨l.toArray⟩) w := by
  rw [run_convert_bytes_string w 22 9 5 A n c Try.underlying22 Try.underlying5 Try.underlying9]
  obtain ⟨hl, _, _⟩ := h.len
  have hc := h.cells
  have e : bytesV l = (l.map fun c => (c.toNat : Int)).map (Value.int .u8) := by simp [bytesV, byteV]
  cases l with
  | nil =>
    have hn : n = 0 := by simpa [bytesV] using hl.symm
    subst hn
    cases A with
    | none => simp [Conv.bytesToString]; rfl
    | some a =>
      have := run_bytesToString (P := Try.prog) w a 0 c [] (by simp [loadCells, loadCellsFrom])
      exact this
  | cons x l =>
    obtain ⟨ad, rfl, hcl⟩ := hc (by simp [bytesV])
    have hld := run_loadCells_list (P := Try.prog) w ad (bytesV (x :: l)) hcl
    rw [hl, e] at hld
    rw [run_bytesToString w ad n c _ hld, foldl_push]
    simp

def Awake (w : World) (e : Ending) (w' : World) : Prop := e = .returned (.bool true) ∧ w.grownBy w' none

set_option maxHeartbeats 1000000 in
theorem awake_any (w : World) : Calls Try.prog 10 #[] w (Awake w) := by
  go_enter Try.func10, Try.ntmps10
  go_wp2_with fail
  refine (number_any _ [] 128 _ (Rd.nil _) (by simp)).mono ?_
  rw [show ([] ++ enc (norm 128)) = [128, 1] by simp [norm, enc_big, enc_small]]
  rintro e w1 ⟨v1, rfl, hr1, hg1, hf1⟩
  have HF := Lib.hid (fixed_any v1 [128, 1] 1 4 w1 hr1 (by simp) (by omega))
  obtain ⟨A1, c1, rfl⟩ := hr1.form
  go_wp2_with fail
  refine HF.out.mono ?_
  rw [show ([128, 1] ++ low (wid 4) 1) = [128, 1, 1, 0, 0, 0] by decide]
  rintro e w2 ⟨v2, rfl, hr2, hg2, hf2⟩
  have HN := Lib.hid (new_any v2 _ w2 hr2 (by simp))
  have HR2 := hr2
  obtain ⟨A2, c2, rfl⟩ := hr2.form
  clear hr2
  go_wp2_with fail
  refine HN.out.mono ?_
  rintro e w3 ⟨g, rfl, hr3, hl3, hg3⟩
  have hstr := run_str (HR2.grown0 hg3)
  have HE := Lib.hid (rnum_at g _ 0 200 w3 hr3 (by simp))
  rw [show numOf [128, 1, 1, 0, 0, 0] 0 200 = (128, [1, 0, 0, 0], 0) by decide] at HE
  go_wp2_with fail
  refine HE.out.mono ?_
  rintro e w4 ⟨rfl, hr4, hg4⟩
  have HX := Lib.hid (rfix_at g _ 0 4 w4 hr4)
  rw [show fixOf [1, 0, 0, 0] 0 4 = (1, [], 0) by decide] at HX
  go_wp2_with fail
  refine HX.out.mono ?_
  rintro e w5 ⟨rfl, hr5, hg5⟩
  have HY := Lib.hid (end_at g _ 0 w5 hr5)
  go_wp2_with fail
  refine HY.out.mono ?_
  rintro e w6 ⟨rfl, rfl⟩
  go_wp2
  go_ret
  refine ⟨rfl, ?_⟩
  have a := grown_new (grown_new (hg1.trans hg2) hg3 (fun _ h => by cases h)) (hg4.trans hg5) (fun b hb => ?_)
  · exact a
  · injection hb with hb
    have := hg1.size
    have := hg2.size
    omega
end Go.Proofs.Ytldambmhclgpoaa
