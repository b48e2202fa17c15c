/-
  awake, over this program: the tag that is published; an array of bytes is the same as itself.
-/
import Derived.Test.YtnekdjejbobmoaaPolTag
import Derived.DeepKeys
import Derived.Lib.SlBytesConst
namespace Go.Proofs.Ytnekdjejbobmoaa
open Go.RowKit

def Awake (w : World) (e : Ending) (w' : World) : Prop := e = .returned (.bool true) ∧ w.grownBy w' none
theorem mapM_some {α β : Type} (f : α → Option β) : ∀ l : List α, (∀ a ∈ l, ∃ b, f a = some b) → ∃ r, l.mapM f = some r
  | [], _ => ⟨[], rfl⟩
  | a :: l, h => by
    obtain ⟨b, hb⟩ := h a (by simp)
    obtain ⟨r, hr⟩ := mapM_some f l (fun x hx => h x (by simp [hx]))
    exact ⟨b :: r, by simp [List.mapM_cons, hb, hr]⟩
theorem cells5 : Try.prog.cellsOf 5 = 1 := by kernel_rfl
theorem eq_self {t n : Nat} (hu : Try.prog.underlying t = some (.array n 5)) (hc : Try.prog.cellsOf t = n) (hk2 : Try.prog.keyTypeAt 2 t = true) (l : List UInt8) (hl : l.length = n) (w : World) : (Op.equalIn 10000 t (.agg (bytesV l).toArray) (.agg (bytesV l).toArray)).run Try.prog w = .ok true w := by
  have hk : ∃ r, Try.prog.keyLits 2 t (Value.agg (bytesV l).toArray).cells.toList = some r := by
    have hcs : (Value.agg (bytesV l).toArray).cells.toList = bytesV l := by simp [Value.cells]
    rw [hcs]
    unfold Program.keyLits
    rw [hu]
    simp only
    rw [if_pos (by rw [bytesV_len, hl, hc])]
    obtain ⟨r, hr⟩ := mapM_some (fun i => Try.prog.keyLits 1 5 (((bytesV l).drop (i * Try.prog.cellsOf 5)).take (Try.prog.cellsOf 5))) (List.range n) (fun i hi => by
      have hi' : i < l.length := by rw [hl]; simpa using hi
      rw [cells5, Nat.mul_one]
      have e : ((bytesV l).drop i).take 1 = [.int .u8 (l[i].toNat : Int)] := by
        rw [List.drop_eq_getElem_cons (by rw [bytesV_len]; exact hi')]
        simp [bytesV, byteV]
      rw [e]
      unfold Program.keyLits
      rw [Try.underlying5]
      have hw : (Lit.int .u8 (l[i].toNat : Int)).wf = true := by
        have := UInt8.toNat_lt l[i]
        have h1 : IntKind.u8.min = 0 := rfl
        have h2 : IntKind.u8.max = 255 := rfl
        simp [Lit.wf, h1, h2]
        omega
      simp only
      rw [if_pos ⟨trivial, hw⟩]
      exact ⟨_, rfl⟩)
    exact ⟨r.flatten, by rw [hr]; rfl⟩
  obtain ⟨r, hr⟩ := hk
  have hf : (Value.agg (bytesV l).toArray).formed Try.prog t = true := by
    simp [Value.formed, hu, bytesV_len, hl, hc]
  obtain ⟨b, h1, h2⟩ := run_equalIn_deep (P := Try.prog) 9998 2 t hk2 w 2 2 _ _ r r hf hf hr hr
  rw [h2.2 rfl] at h1
  exact h1
theorem eq_self16 (l : List UInt8) (hl : l.length = 16) (w : World) : (Op.equalIn 10000 25 (.agg (bytesV l).toArray) (.agg (bytesV l).toArray)).run Try.prog w = .ok true w := eq_self Try.underlying25 (by kernel_rfl) (by kernel_rfl) l hl w
theorem eq_self17 (l : List UInt8) (hl : l.length = 17) (w : World) : (Op.equalIn 10000 31 (.agg (bytesV l).toArray) (.agg (bytesV l).toArray)).run Try.prog w = .ok true w := eq_self Try.underlying31 (by kernel_rfl) (by kernel_rfl) l hl w

def key0 : List UInt8 := [0x85, 0xd6, 0xbe, 0x78, 0x57, 0x55, 0x6d, 0x33, 0x7f, 0x44, 0x52, 0xfe, 0x42, 0xd5, 0x06, 0xa8, 0x01, 0x03, 0x80, 0x8a, 0xfb, 0x0d, 0xb2, 0xfd, 0x4a, 0xbf, 0xf6, 0xaf, 0x41, 0x49, 0xf5, 0x1b]
def msg0 : List UInt8 := [67, 114, 121, 112, 116, 111, 103, 114, 97, 112, 104, 105, 99, 32, 70, 111, 114, 117, 109, 32, 82, 101, 115, 101, 97, 114, 99, 104, 32, 71, 114, 111, 117, 112]
def tag0 : List UInt8 := [0xa8, 0x06, 0x1d, 0xc1, 0x30, 0x51, 0x36, 0xc6, 0xc2, 0x2b, 0x8b, 0xaf, 0x0c, 0x01, 0x27, 0xa9]

/-- A row that has just been laid. -/
theorem Rd.new (w : World) (xs : List Value) (t : TypeId) (mk : Nat × Nat) (c : Nat) (h : xs.length ≤ c) (hc : c ≤ maxLen) :
    Rd (w.alloc (.cells xs.toArray t mk)) (.slice (some ⟨w.heap.size, 0, none⟩) xs.length c) xs := by
  refine ⟨_, c, rfl, h, hc, fun _ => ⟨_, rfl, fun j u hu => ?_⟩⟩
  have : (⟨w.heap.size, 0, none⟩ : Addr).add j = ⟨w.heap.size, j, none⟩ := by unfold Addr.add; split <;> simp_all
  rw [this, World.cell?_alloc_mark]
  simpa using hu
theorem msg0_cells : (bytesV msg0).toArray = #[.int .u8 67, .int .u8 114, .int .u8 121, .int .u8 112, .int .u8 116, .int .u8 111, .int .u8 103, .int .u8 114, .int .u8 97, .int .u8 112, .int .u8 104, .int .u8 105, .int .u8 99, .int .u8 32, .int .u8 70, .int .u8 111, .int .u8 114, .int .u8 117, .int .u8 109, .int .u8 32, .int .u8 82, .int .u8 101, .int .u8 115, .int .u8 101, .int .u8 97, .int .u8 114, .int .u8 99, .int .u8 104, .int .u8 32, .int .u8 71, .int .u8 114, .int .u8 111, .int .u8 117, .int .u8 112] := rfl
theorem tag0_cells : (bytesV tag0).toArray = #[.int .u8 168, .int .u8 6, .int .u8 29, .int .u8 193, .int .u8 48, .int .u8 81, .int .u8 54, .int .u8 198, .int .u8 194, .int .u8 43, .int .u8 139, .int .u8 175, .int .u8 12, .int .u8 1, .int .u8 39, .int .u8 169] := rfl

set_option maxRecDepth 100000 in
set_option maxHeartbeats 4000000 in
theorem awake_any (w : World) : Calls Try.prog 10 #[] w (Awake w) := by
  have HT := Lib.hid (fun v W (h : Rd W v (bytesV msg0)) => tag_any key0 rfl v msg0 W h (by decide))
  rw [show tagB key0 msg0 = tag0 from awake_known] at HT
  have heq := eq_self16 tag0 rfl
  have HKO := Lib.hid (fun x hx => bytesV_one key0 x hx)
  have HTO := Lib.hid (fun x hx => bytesV_one tag0 x hx)
  have kc := fun (w : World) (C : Array Value) (n c : Nat) => Lib.run_convert_bytes_const (P := Try.prog) w 23 5 C n c Try.underlying23 Try.underlying5
  generalize hG : w.heap.size = G
  have HG := Lib.hid hG
  have HKL := Lib.hid (show (bytesV key0).length = 32 from rfl)
  have HTL := Lib.hid (show (bytesV tag0).length = 16 from rfl)
  go_enter Try.func10, Try.ntmps10
  go_wp2_with (first
    | (refine wpList_store_row _ rfl rfl _ _ 22 rfl G 22 _ (bytesV key0) rfl rfl (Row.newAt w 22 (noughts8 32) hG) rfl HKO.out (by rw [HKL.out]; kernel_rfl) ?_; intro w1 hr1 hg1)
    | refine wpList_load_row _ rfl _ 22 rfl G 22 (bytesV key0) _ rfl hr1 Try.underlying22 rfl (by rw [HKL.out]; kernel_rfl) ?_)
  rw [← msg0_cells]
  have hg1' : w.grownBy (w1.alloc (.cells (bytesV msg0).toArray 5 (34, 35))) none := grown_alloc (grown_own (grown_alloc (grown_refl w none) _) hg1 (by omega)) _
  have hm : Rd (w1.alloc (.cells (bytesV msg0).toArray 5 (34, 35))) (.slice (some ⟨w1.heap.size, 0, none⟩) 34 34) (bytesV msg0) := Rd.new w1 (bytesV msg0) 5 (34, 35) 34 (by decide) (by decide)
  have HG1 := Lib.hid hg1'
  have HM := Lib.hid hm
  generalize w1.alloc (.cells (bytesV msg0).toArray 5 (34, 35)) = W2 at *
  clear hr1 hg1 hg1' hm hG kc
  refine (HT.out _ _ HM.out).mono ?_
  rintro e w3 ⟨rfl, hg3⟩
  have HG3 := Lib.hid (HG1.out.trans hg3)
  have HWS := Lib.hid (HG3.out.size)
  clear hg3 HT HM
  obtain ⟨xs, hxs⟩ : ∃ xs, bytesV tag0 = xs := ⟨_, rfl⟩
  have hxs' : #[.int .u8 168, .int .u8 6, .int .u8 29, .int .u8 193, .int .u8 48, .int .u8 81, .int .u8 54, .int .u8 198, .int .u8 194, .int .u8 43, .int .u8 139, .int .u8 175, .int .u8 12, .int .u8 1, .int .u8 39, .int .u8 169] = xs.toArray := by rw [← hxs]; exact tag0_cells.symm
  rw [hxs] at HTL HTO heq ⊢
  have HXS := Lib.hid hxs'
  have heq' : ∀ w : World, (Op.equalIn 10000 25 (.agg xs.toArray) (.agg #[.int .u8 168, .int .u8 6, .int .u8 29, .int .u8 193, .int .u8 48, .int .u8 81, .int .u8 54, .int .u8 198, .int .u8 194, .int .u8 43, .int .u8 139, .int .u8 175, .int .u8 12, .int .u8 1, .int .u8 39, .int .u8 169])).run Try.prog w = .ok true w := by rw [hxs']; exact heq
  clear hxs hxs' heq
  go_wp2_with (first
    | (refine wpList_store_row _ rfl rfl _ _ 25 rfl w3.heap.size 25 (noughts8 16) xs rfl rfl (Row.new w3 25 (noughts8 16)) (by rw [HTL.out]; rfl) HTO.out (by rw [HTL.out]; kernel_rfl) ?_; intro w4 hr4 hg4)
    | refine wpList_load_row _ rfl _ 25 rfl w3.heap.size 25 xs _ rfl hr4 Try.underlying25 rfl (by rw [HTL.out]; kernel_rfl) ?_)
  go_ret
  exact ⟨rfl, grown_own (grown_alloc HG3.out _) hg4 HWS.out⟩
end Go.Proofs.Ytnekdjejbobmoaa
