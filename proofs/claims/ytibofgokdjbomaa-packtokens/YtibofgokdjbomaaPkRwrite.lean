/-
  The document's own Write of layer 11 over this program.
-/
import Derived.Test.YtibofgokdjbomaaPkRw
import Derived.Test.YtibofgokdjbomaaPkV
import Derived.Test.YtibofgokdjbomaaReg4
namespace Go.Proofs.Ytibofgokdjbomaa
set_option maxRecDepth 1000000
open Go.RowKit

section
variable {o : Oper} {a : Act} {w : World}
theorem st_fieldS {x : Operand} {g : Nat} (h : o.op = .fieldAddr 96 x 0) (hx : Is (.pointer (some ⟨g, 0, none⟩)) (a.eval x) w) : Runs (Is (.pointer (some ⟨g, 0, none⟩))) o a w := by
  have hx' : a.eval x = .pointer (some ⟨g, 0, none⟩) := hx
  refine ⟨_, ?_, rfl⟩
  simp only [execOp, h, hx']
  kernel_rfl
theorem st_fieldB {x : Operand} {g : Nat} (h : o.op = .fieldAddr 41 x 2) (hx : Is (.pointer (some ⟨g, 0, none⟩)) (a.eval x) w) : Runs (Is (.pointer (some ⟨g, 2, none⟩))) o a w := by
  have hx' : a.eval x = .pointer (some ⟨g, 0, none⟩) := hx
  refine ⟨_, ?_, rfl⟩
  simp only [execOp, h, hx']
  kernel_rfl
theorem st_loadWS {x : Operand} {g gb : Nat} {v : Value} {T : Cst} (h : o.op = .load 52 x) (hx : Is (.pointer (some ⟨g, 0, none⟩)) (a.eval x) w) (hr : Row w g 96 (sC v T gb)) : Runs (Is (cV v T)) o a w :=
  ⟨_, ex_load_part h g 0 96 (sC v T gb) [v, .int .i64 (T.low : Int), .int .i64 (T.width : Int)] _ hx hr (fun j u hu => by rcases j with _ | _ | _ | j <;> simp at hu <;> simp [sC, hu]) Try.underlying52 rfl (by kernel_rfl), rfl⟩
end
/-- What Even answers, as a value that lasts. -/
def CWp (O : List UInt8) (T1 : Cst) (xv : Value) (H : Nat) (v : Value) (W : World) : Prop := ∃ xv', v = cV xv' T1 ∧ Rd W xv' (bytesV T1.out) ∧ (T1.out ≠ [] → ∀ k, xv'.ownBlock = some k → (O ≠ [] ∧ xv.ownBlock = some k) ∨ H ≤ k)
theorem CVal.cwp {v0 : Value} {O : List UInt8} {T1 : Cst} {w w' : World} {e : Ending} {H : Nat} (h : CVal v0 O T1 w e w') (hH : H ≤ w.heap.size) : ∃ u, e = .returned u ∧ w.grownBy w' none ∧ CWp O T1 v0 H u w' := by
  obtain ⟨v, rfl, hr, hg, hs⟩ := h
  exact ⟨_, rfl, hg, v, rfl, hr, fun he k hk => (hs he k hk).imp_right (Nat.le_trans hH)⟩
theorem own_sliceB {w : World} {base : Nat} {v : Value} {n : Nat} {xs : List Value} (h : w.ownsRow base 5 1 v n xs) (hn : 0 < n) : ∃ b c, v = .slice (some ⟨b, 0, none⟩) n c := by
  rcases h.2 with ⟨_, e⟩ | ⟨gr, cp, cur, e, _⟩
  · omega
  · exact ⟨gr, cp, e⟩
set_option maxHeartbeats 16000000 in
theorem writeR_any (l : List Tok) (v : Value) (w : World) (hv : RdT w v l) (he : (expand l).2 = 0) (hfew : l.length ≤ 2000) :
    Calls Try.prog 20 #[v] w (fun e w' => ∃ u, e = .returned u ∧ Rd w' u (bytesV (writeS l)) ∧ w.grownBy w' none) := by
  obtain ⟨A, c, rfl⟩ := hv.form
  have HV := Lib.hid hv
  have HL := Lib.hid hfew
  have HE := Lib.hid he
  clear hv he hfew
  obtain ⟨n, hn⟩ : ∃ n, l.length = n := ⟨_, rfl⟩
  have HN := Lib.hid hn
  rw [hn] at HL HV ⊢
  clear hn
  go_enter Try.func20, Try.ntmps20
  go_wp2_with fail
  refine (rbegin_any w).mono ?_
  rintro e w1 ⟨xv, rfl, hr1, hg1, _⟩
  obtain ⟨A1, k1, rfl⟩ := hr1.form
  rw [show (bytesV beginS.out).length = 0 from rfl] at *
  have H1 := Lib.hid (And.intro hr1 hg1)
  obtain ⟨gb, hgb⟩ : ∃ g, w1.heap.size = g := ⟨_, rfl⟩
  obtain ⟨W2, hW2⟩ : ∃ W, (w1.alloc (.map #[] 0)).alloc (.cells #[.slice A1 0 k1, .int .i64 (beginS.low : Int), .int .i64 (beginS.width : Int), .map (some gb)] 96) = W := ⟨_, rfl⟩
  have hmk := @run_makeMap Try.prog
  unfold cV
  clear hr1 hg1
  go_wp2
  have hgW : w1.grownBy W2 none := by rw [← hW2]; exact grown_alloc (grown_alloc (grown_refl _ _) _) _
  have HS := Lib.hid (show WrR w W2 (gb + 1) gb 0 (.slice A1 0 k1) beginS kst0.L (.slice none 0 0) [] from
    ⟨by rw [← hW2]; exact Row.newAt _ _ [.slice A1 0 k1, .int .i64 (beginS.low : Int), .int .i64 (beginS.width : Int), .map (some gb)] (by simp [hgb]), (H1.out.1.grown0 hgW : Rd W2 _ _), ⟨_, by rw [← hW2]; exact (Mi.made w1 hgb).grown0 (grown_alloc (grown_refl _ _) _), MR.begin⟩, World.ownsRow_nil _ _ _ _, (fun k hk => by cases hk), ⟨by have := H1.out.2.size; omega, by have := H1.out.2.size; omega, by omega⟩, (fun h => absurd rfl h), H1.out.2.trans hgW⟩)
  clear hW2 hgW hgb H1 hmk
  generalize Value.slice A1 0 k1 = xv at *
  generalize gb + 1 = gs at *
  go_loopw [4, 5, 6] (fun kd u i W => ∃ (k m : Nat) (v : Value), k ≤ n ∧ i = .int .i64 k ∧ kd = .int .i64 ((putsP pst0 (l.take k)).x.kind : Int) ∧ m ≤ 13 * k ∧ WrR w W gs gb m v (putsP pst0 (l.take k)).s (putsP pst0 (l.take k)).x.L u (putsP pst0 (l.take k)).x.h) (fun _ _ i _ => n - (intOf i).toNat)
  case atStart => exact ⟨0, 0, xv, Nat.zero_le _, rfl, rfl, Nat.le_refl _, HS.out⟩
  case round =>
    obtain ⟨k, m, v, hk, rfl, rfl, hm, hh⟩ := hrel
    have HH := Lib.hid hh
    have HM := Lib.hid hm
    clear hh hm HS
    by_cases hlt : k < n
    · have hkl : k < l.length := by rw [HN.out]; exact hlt
      have hd : decide ((k : Int) < (n : Int)) = true := by simp; omega
      have hki : (k : Int) < (n : Int) := by omega
      have hnn := HL.out
      have HAT := Lib.hid (at_k HE.out k hkl)
      have HNX := Lib.hid (putsP_take l pst0 k hkl)
      obtain ⟨ad, t, rfl, ht, c0, c1, c2⟩ := (HV.out.grown0 HH.out.grow).tok hkl
      have HOK := Lib.hid HAT.out.ok
      have HR0 := Lib.hid HAT.out.r
      have HB0 := Lib.hid HAT.out.b
      have HN0 := Lib.hid HAT.out.n
      have HO0 := Lib.hid HAT.out.o
      rw [ht] at HR0 HB0 HNX
      obtain ⟨P1, hP1⟩ : ∃ P, putsP pst0 (l.take (k + 1)) = P := ⟨_, rfl⟩
      have HP1 := Lib.hid hP1
      rw [hP1] at HNX
      generalize putsP pst0 (l.take k) = P at *
      obtain ⟨S, ⟨L, kd, h⟩⟩ := P
      simp only at HH HB0 HN0 HO0 ⊢
      have hkd : kd ≤ 1 := HOK.out.x.k
      have HRL := Lib.hid (right_len HR0.out)
      have hmk := min_kind t HRL.out.1
      have hkb := kind_bit t
      have HKN := Lib.hid (kindN_le t)
      have HPT := Lib.hid (show P1 = ⟨(putT S ⟨L, kd, h⟩ t).1, ⟨(putT S ⟨L, kd, h⟩ t).2, kindN t, putTok h t⟩⟩ from HNX.out)
      have HB1 := Lib.hid (bitS_okw (decide (0 < t.len)) HOK.out.s HOK.out.x.l (kind_lt HOK.out.x))
      have HB2 := Lib.hid ((bitS_len S L kd (decide (0 < t.len))).trans HOK.out.x.len)
      have HB3 := Lib.hid (show (bitS S L kd (decide (0 < t.len))).1.out.length ≤ 56001 by
        have := putS_len S (S.width / 2048 * L.getD kd 0) (decide (0 < t.len))
        show (putS _ _ _).out.length ≤ _
        have := HO0.out
        omega)
      have HBK := Lib.hid (fun M W (h1 : Rd W v (bytesV S.out)) (h2 : Mi W gb m M) (h3 : MR M L) => bitK_any v S gb m M L kd (kd : Int) (decide (0 < t.len)) W h1 h2 h3 HOK.out.x.len HOK.out.x.l (by omega) (key_kind hkd) HOK.out.s.ok (by have := HO0.out; omega) (by have := HM.out; omega))
      obtain ⟨kn, hkn⟩ : ∃ kn, kindN t = kn := ⟨_, rfl⟩
      rw [hkn] at hmk hkb HKN HPT
      rw [← hkb] at HBK
      have HKE := Lib.hid hkn
      clear hkb hkn
      obtain ⟨gt, hgt⟩ : ∃ g, wr.heap.size = g := ⟨_, rfl⟩
      obtain ⟨W4, hW4⟩ : ∃ W, wr.alloc (.cells #[.int .u8 (t.lit.toNat : Int), .int .i64 t.len, .int .i64 t.back] 41) = W := ⟨_, rfl⟩
      have hg4 : wr.grownBy W4 none := by rw [← hW4]; exact grown_alloc (grown_refl _ _) _
      have HT := Lib.hid (show WrT w W4 gs gb m v S L u5 h gt t from ⟨HH.out.grown0 hg4, by rw [← hW4]; exact Row.newAt wr _ (tokC t) hgt, fun e => by have := HH.out.row.lt; omega, (fun e => by obtain ⟨M, m1, _⟩ := HH.out.map; have := m1.lt; omega), fun j hj => by have := (HH.out.own.lt j hj).2; omega⟩)
      have e1 := HT.out.tk.cell (j := 1) rfl
      have hrow := HT.out.r.row
      obtain ⟨M, hM1, hM2⟩ := HT.out.r.map
      have HBK2 := Lib.hid (HBK.out M W4 HT.out.r.rd hM1 hM2)
      obtain ⟨S1, hS1⟩ : ∃ S1, bitS S L kd (decide (0 < t.len)) = S1 := ⟨_, rfl⟩
      rw [hS1] at HBK2 HB1 HB2 HB3
      have HS1 := Lib.hid hS1
      clear ht hP1 HAT HNX hg4 HH HBK hM1 hM2 hS1
      go_wp2_with (first
        | (refine wpList_load_row _ rfl _ 96 rfl gs 96 _ _ rfl HT.out.r.row Try.underlying96 rfl (by kernel_rfl) ?_)
        | (refine wpList_runs rfl (ex_minc 1 rfl rfl) ?_; rw [hmk]))
      refine HBK2.out.mono ?_
      rintro e w3 ⟨v3, M3, rfl, hr3, hm3, hM3, hg3, hs3⟩
      have HV3 := Lib.hid (show Rd w3 v3 (bytesV S1.1.out) ∧ Mi w3 gb (m + 1) M3 ∧ MR M3 S1.2 from ⟨hr3, hm3, hM3⟩)
      have HG3 := Lib.hid hg3
      have HS3 := Lib.hid hs3
      have HR3 := Lib.hid (HT.out.r.row.grown hg3 (fun e => HT.out.r.new.2.2 (Option.some.inj e).symm))
      clear hr3 hm3 hM3 hg3 hs3
      obtain ⟨A5, c5, rfl⟩ := (Rd.of_own HT.out.r.own).form
      rw [bytesV_len] at HT ⊢
      have HLN := Lib.hid (show S.out.length ≤ 56000 by have := HO0.out; omega)
      clear hkl HBK2 hrow e1
      by_cases hz : 0 < t.len
      · have hne : ¬ t.len = 0 := by omega
        have HRR := Lib.hid (HRL.out.2.2.2.2.2 hne)
        have hl3 : 3 ≤ t.len := HRR.out.2
        have hl258 : t.len ≤ 258 := HRL.out.2.1
        have hb1 : 1 ≤ t.back := HRR.out.1
        have hb2 : t.back ≤ 32768 := HRL.out.2.2.2.1
        have q0 : (t.len == 0) = false := by simpa using hne
        have hk1 : kn = 1 := by rw [← HKE.out]; unfold kindN; rw [if_pos hz]
        subst hk1
        have hdz : decide (0 < t.len) = true := by simpa using hz
        rw [hdz] at HS1
        obtain ⟨N, hN⟩ : ∃ N : Nat, t.len - 3 = (N : Int) := ⟨(t.len - 3).toNat, by omega⟩
        obtain ⟨D, hD⟩ : ∃ D : Nat, t.back - 1 = (D : Int) := ⟨(t.back - 1).toNat, by omega⟩
        have hN255 : N ≤ 255 := by omega
        have hDm : D ≤ 32767 := by omega
        have HTR := Lib.hid (fun (M : Int → Option Int) (W : World) (h1 : Rd W v3 (bytesV S1.1.out)) (h2 : Mi W gb (m + 1) M) (h3 : MR M S1.2) => treeR_any v3 S1.1 gb (m + 1) M S1.2 2050 256 1000 N 8 W h1 h2 h3 HB2.out HB1.out.2 (by omega) (fun q hq => key_lens hq) (by decide) HB1.out.1 (by have := HB3.out; omega) (by have := HM.out; omega) (by decide) (by decide) (by omega))
        obtain ⟨S2, hS2⟩ : ∃ S2, treeB S1.1 S1.2 2050 (N : Int) 8 1 = S2 := ⟨_, rfl⟩
        rw [hS2] at HTR
        have HS2 := Lib.hid hS2
        clear hS2
        go_wp2_with (first
          | (refine wpList_store_row _ rfl rfl _ _ 96 rfl gs 96 _ (sC v3 S1.1 gb) rfl rfl HR3.out rfl (by obtain ⟨A, c, e⟩ := HV3.out.1.form; rw [e]; simp [sC, Value.oneCell']) (by kernel_rfl) ?_; intro w4 hr4 hg4; have HT2 := Lib.hid (HT.out.step HV3.out.1 HV3.out.2.1 HV3.out.2.2 HG3.out HS3.out hr4 hg4); have e1 := HT2.out.tk.cell (j := 1) rfl; clear hr4 hg4)
          | (refine wpList_load_row _ rfl _ 96 rfl gs 96 _ _ rfl HT2.out.r.row Try.underlying96 rfl (by kernel_rfl) ?_)
          | (refine wpList_runs rfl (ex_minc 1 rfl rfl) ?_; rw [hmk]))
        obtain ⟨M4, m41, m42⟩ := HT2.out.r.map
        refine (HTR.out M4 w4 HT2.out.r.rd m41 m42).mono ?_
        rintro e w5 ⟨v5, M5, rfl, hr5, hm5, hM5, hg5, hs5⟩
        have HV5 := Lib.hid (show Rd w5 v5 (bytesV S2.1.out) ∧ Mi w5 gb (m + 1 + 8) M5 ∧ MR M5 S2.2 from ⟨hr5, hm5, hM5⟩)
        have HG5 := Lib.hid hg5
        have HS5 := Lib.hid hs5
        have HR5 := Lib.hid (HT2.out.r.row.grown hg5 (fun e => HT2.out.r.new.2.2 (Option.some.inj e).symm))
        have HC1 := Lib.hid (show Okw S2.1 ∧ Okl S2.2 by rw [← HS2.out]; exact treeB_okw _ 2050 256 8 1 HB1.out.1 HB1.out.2 (by rw [HB2.out]; decide) (by decide))
        have HC2 := Lib.hid (show S2.2.length = 2322 by rw [← HS2.out]; exact (treeB_len _ _ _ _ _ _).1.trans HB2.out)
        have HC3 := Lib.hid (show S2.1.out.length ≤ 56009 by rw [← HS2.out]; have := (treeB_len (N : Int) 2050 8 1 S1.1 S1.2).2; have := HB3.out; omega)
        obtain ⟨nb, hnb⟩ : ∃ nb, nbits D = nb := ⟨_, rfl⟩
        have hnb15 : nb ≤ 15 := by rw [← hnb]; exact nbits_le (by omega)
        have HNB := Lib.hid hnb
        have HTR2 := Lib.hid (fun (M : Int → Option Int) (W : World) (h1 : Rd W v5 (bytesV S2.1.out)) (h2 : Mi W gb (m + 1 + 8) M) (h3 : MR M S2.2) => treeR_any v5 S2.1 gb (m + 1 + 8) M S2.2 2306 16 2000 nb 4 W h1 h2 h3 HC2.out HC1.out.2 (by omega) (fun q hq => key_backs) (by decide) HC1.out.1 (by have := HC3.out; omega) (by have := HM.out; omega) (by decide) (by decide) (by omega))
        obtain ⟨S3, hS3⟩ : ∃ S3, treeB S2.1 S2.2 2306 (nb : Int) 4 1 = S3 := ⟨_, rfl⟩
        rw [hS3] at HTR2
        have HS3 := Lib.hid hS3
        clear hS3
        have HD1 := Lib.hid (show Okw S3.1 ∧ Okl S3.2 by rw [← HS3.out]; exact treeB_okw _ 2306 16 4 1 HC1.out.1 HC1.out.2 (by rw [HC2.out]; decide) (by decide))
        have HD3 := Lib.hid (show S3.1.out.length ≤ 56013 by rw [← HS3.out]; have := (treeB_len (nb : Int) 2306 4 1 S2.1 S2.2).2; have := HC3.out; omega)
        have HPZ := Lib.hid (show putT S ⟨L, kd, h⟩ t = (evenS S3.1 (D : Int) (nb - 1), S3.2) by
          unfold putT
          rw [if_pos hz]
          simp only [hN, hD, Int.toNat_natCast, hnb, HS1.out, HS2.out, HS3.out])
        clear hr5 hm5 hM5 hg5 hs5 e1 m41 m42 HTR hnb
        go_wp2_with (first
          | (refine wpList_store_row _ rfl rfl _ _ 96 rfl gs 96 _ (sC v5 S2.1 gb) rfl rfl HR5.out rfl (by obtain ⟨A, c, e⟩ := HV5.out.1.form; rw [e]; simp [sC, Value.oneCell']) (by kernel_rfl) ?_; intro w4 hr4 hg4; have HT3 := Lib.hid (HT2.out.step HV5.out.1 HV5.out.2.1 HV5.out.2.2 HG5.out HS5.out hr4 hg4); have e2 := HT3.out.tk.cell (j := 2) rfl; clear hr4 hg4))
        clear e2
        go_loopw [9, 10] (fun nn kk W => ∃ j x : Nat, nn = .int .i64 j ∧ kk = .int .i64 x ∧ j + nbits x = nb ∧ x ≤ D ∧ WrT w W gs gb (m + 1 + 8) v5 S2.1 S2.2 (.slice A5 h.length c5) h gt t) (fun _ kk _ => (intOf kk).toNat)
        case atStart => exact ⟨0, D, rfl, rfl, by have := HNB.out; omega, Nat.le_refl _, HT3.out⟩
        case round =>
          obtain ⟨j, x, rfl, rfl, hj, hx, hh⟩ := hrel
          clear HT3
          have HT3 := Lib.hid hh
          clear hh
          by_cases hx0 : 0 < x
          · have hdx : decide (0 < (x : Int)) = true := by rw [decide_eq_true_eq]; omega
            have hdx2 : decide (0 < x) = true := by rw [decide_eq_true_eq]; omega
            have hhalf : ((x : Int)).tdiv 2 = ((x / 2 : Nat) : Int) := by rw [Int.tdiv_eq_ediv_of_nonneg (by omega)]; omega
            have HNH := Lib.hid (nbits_half (show x ≠ 0 by omega))
            obtain ⟨x2, hx2⟩ : ∃ x2, x / 2 = x2 := ⟨_, rfl⟩
            rw [hx2] at hhalf HNH
            have hx3 : x2 < x := by omega
            clear hx2
            go_wp2
            go_roundw
            case rel => exact ⟨j + 1, x2, by go_num, rfl, by have := HNH.out; omega, by omega, HT3.out⟩
            case measure => simp only [intOf]; omega
          · obtain rfl : x = 0 := by omega
            obtain rfl : nb = j := by rw [nbits_zero] at hj; exact hj.symm
            obtain ⟨M7, m71, m72⟩ := HT3.out.r.map
            go_wp2_with (refine wpList_load_row _ rfl _ 96 rfl gs 96 _ _ rfl HT3.out.r.row Try.underlying96 rfl (by kernel_rfl) ?_)
            refine (HTR2.out M7 wr HT3.out.r.rd m71 m72).mono ?_
            rintro e w6 ⟨v6, M6, rfl, hr6, hm6, hM6, hg6, hs6⟩
            have HV6 := Lib.hid (show Rd w6 v6 (bytesV S3.1.out) ∧ Mi w6 gb (m + 1 + 8 + 4) M6 ∧ MR M6 S3.2 from ⟨hr6, hm6, hM6⟩)
            have HG6 := Lib.hid hg6
            have HS6 := Lib.hid hs6
            have HR6 := Lib.hid (HT3.out.r.row.grown hg6 (fun e => HT3.out.r.new.2.2 (Option.some.inj e).symm))
            clear hr6 hm6 hM6 hg6 hs6 m71 m72 HTR2
            go_wp2_with (refine wpList_store_row _ rfl rfl _ _ 96 rfl gs 96 _ (sC v6 S3.1 gb) rfl rfl HR6.out rfl (by obtain ⟨A, c, e⟩ := HV6.out.1.form; rw [e]; simp [sC, Value.oneCell']) (by kernel_rfl) ?_; intro w4 hr4 hg4; have HT4 := Lib.hid (HT3.out.step HV6.out.1 HV6.out.2.1 HV6.out.2.2 HG6.out HS6.out hr4 hg4); clear hr4 hg4)
            clear HT3 HV6 HG6 HS6 HR6
            go_loopw [11] (fun kv W => ∃ (kk : Int) (T : Cst) (vt : Value), kv = .int .i64 kk ∧ -3 < kk ∧ kk < 16 ∧ evenS T (D : Int) (kk + 1).toNat = evenS S3.1 (D : Int) (nb - 1) ∧ Okw T ∧ T.out.length + (kk + 1).toNat ≤ 56040 ∧ WrT w W gs gb (m + 1 + 8 + 4) vt T S3.2 (.slice A5 h.length c5) h gt t) (fun kv _ => (intOf kv + 1).toNat)
            case atStart => exact ⟨(nb : Int) - 2, S3.1, v6, rfl, by omega, by omega, by rw [show ((nb : Int) - 2 + 1).toNat = nb - 1 by omega], HD1.out.1, by have := HD3.out; omega, HT4.out⟩
            case round =>
              obtain ⟨kk, T, vt, rfl, hk1, hk2, hev, hok, hlen, hh⟩ := hrel
              clear HT4
              have HT4 := Lib.hid hh
              have HEV := Lib.hid hev
              have HOKT := Lib.hid hok
              have HLT := Lib.hid hlen
              clear hh hev hok hlen
              by_cases hk0 : 0 ≤ kk
              · obtain ⟨i0, hi0⟩ : ∃ i0 : Nat, kk = (i0 : Int) := ⟨kk.toNat, by omega⟩
                subst hi0
                have hkf : decide ((i0 : Int) ≥ 0) = true := by rw [decide_eq_true_eq]; omega
                have hkf2 : decide (0 ≤ (i0 : Int)) = true := by rw [decide_eq_true_eq]; omega
                rw [show ((i0 : Int) + 1).toNat = i0 + 1 by omega] at HEV HLT
                have HNX2 := Lib.hid (show Okw (putS T (T.width / 2) (bitAt (D : Int) i0)) ∧ (putS T (T.width / 2) (bitAt (D : Int) i0)).out.length + i0 ≤ 56040 ∧ evenS (putS T (T.width / 2) (bitAt (D : Int) i0)) (D : Int) i0 = evenS S3.1 (D : Int) (nb - 1) from ⟨putS_okw _ HOKT.out (even_ok HOKT.out.ok), by have := putS_len T (T.width / 2) (bitAt (D : Int) i0); have := HLT.out; omega, HEV.out⟩)
                have HPE := Lib.hid (fun (W' : World) (hr' : Rd W' vt (bytesV T.out)) => reven_any vt T (bitAt (D : Int) i0) W' hr' HOKT.out.ok (by have := HLT.out; omega))
                obtain ⟨T1, hT1⟩ : ∃ T1, putS T (T.width / 2) (bitAt (D : Int) i0) = T1 := ⟨_, rfl⟩
                rw [hT1] at HNX2 HPE
                have HBA := Lib.hid (fun (W' : World) => bitAtR_any D i0 (by omega) (by omega) W')
                have HDB := Lib.hid hD
                clear hT1
                go_wp2
                refine wp_region_walk4 9 [] dis_nil (by kernel_rfl) (by kernel_rfl) (by kernel_rfl) ?_
                simp only [List.take_succ_cons, List.take_zero, List.drop_succ_cons, List.drop_zero]
                refine Walk.val (G := Is (.pointer (some ⟨gs, 0, none⟩))) (stays_is _ _) rfl rfl (fun a w hm hd => ⟨wanted_plain rfl, st_fieldS rfl (by rw [hm.outer 3 (by kernel_rfl)]; rfl)⟩) ?_
                refine Walk.val (G := Is (cV vt T)) (stays_is _ _) rfl rfl (fun a w hm hd => ⟨wanted_plain rfl, st_loadWS rfl (hd.at_ 0 rfl rfl rfl rfl) (HT4.out.r.row.grown0 (GrownX.none2 hm.grow))⟩) ?_
                refine Walk.val (G := Is (.pointer (some ⟨gt, 2, none⟩))) (stays_is _ _) rfl rfl (fun a w hm hd => ⟨wanted_plain rfl, st_fieldB rfl (by rw [hm.outer 7 (by kernel_rfl)]; rfl)⟩) ?_
                refine Walk.val (G := Is (.int .i64 t.back)) (stays_is _ _) rfl rfl (fun a w hm hd => ⟨wanted_plain rfl, st_cell rfl (fun _ => by kernel_rfl) (hd.at_ 2 rfl rfl rfl rfl) ((HT4.out.tk.grown0 (GrownX.none2 hm.grow)).cell (j := 2) rfl)⟩) ?_
                refine Walk.val (G := Is (.int .i64 (D : Int))) (stays_is _ _) rfl rfl (fun a w hm hd => ⟨wanted_plain rfl, st_subi rfl (hd.at_ 3 rfl rfl rfl rfl) rfl HDB.out (by omega)⟩) ?_
                refine Walk.val (G := Is (.int .i64 (i0 : Int))) (stays_is _ _) rfl rfl (fun a w hm hd => ⟨wanted_plain rfl, st_move rfl (by rw [hm.outer 11 (by kernel_rfl)]; rfl)⟩) ?_
                refine Walk.call (G := Is (.int .i64 ((bitAt (D : Int) i0).toNat : Int))) (stays_is _ _) rfl 51 rfl (fun a w hm ha hd => ⟨wanted_plain rfl, _, ex_call2 Try.func51 (by kernel_rfl) (by kernel_rfl) rfl, by rw [show a.eval (.tmp 89) = _ from (hd.at_ 4 rfl rfl rfl rfl), show a.eval (.tmp 90) = _ from (hd.at_ 5 rfl rfl rfl rfl)]; exact Val.made (HBA.out w)⟩) ?_
                refine Walk.call (G := CWp T.out T1 vt wr.heap.size) (fun _ _ _ _ _ ⟨x, h1, h2, h3⟩ hg => ⟨x, h1, h2.grown0 hg, h3⟩) rfl 29 rfl (fun a w hm ha hd => ⟨wanted_plain rfl, _, ex_call2 Try.func29 (by kernel_rfl) (by kernel_rfl) rfl, by
                  rw [show a.eval (.tmp 86) = _ from (hd.at_ 1 rfl rfl rfl rfl), show a.eval (.tmp 91) = _ from (hd.at_ 6 rfl rfl rfl rfl)]
                  refine (HPE.out w (HT4.out.r.rd.grown0 (GrownX.none2 hm.grow))).mono ?_
                  intro e w' h
                  exact h.cwp hm.grow.size⟩) ?_
                refine Walk.val (G := Is (.pointer (some ⟨gs, 0, none⟩))) (stays_is _ _) rfl rfl (fun a w hm hd => ⟨wanted_plain rfl, st_fieldS rfl (by rw [hm.outer 3 (by kernel_rfl)]; rfl)⟩) ?_
                intro a9 V9 hm9 hall
                obtain ⟨zv, f92, hzr, hzs⟩ : CWp T.out T1 vt wr.heap.size (a9.eval (.tmp 92)) V9 := hall 7 _ _ rfl rfl
                have f93 : Is (.pointer (some ⟨gs, 0, none⟩)) (a9.eval (.tmp 93)) V9 := hall 8 _ _ rfl rfl
                have f93 : a9.eval (.tmp 93) = _ := f93
                obtain ⟨Az, cz, rfl⟩ := hzr.form
                have hg9 := GrownX.none2 hm9.grow
                have hfr := hm9.frame
                simp only [List.take_succ_cons, List.take_zero, List.filterMap_cons, List.filterMap_nil, List.foldl_cons, List.foldl_nil] at hfr
                rw [f92, f93] at hfr
                generalize a9.eval (.tmp 85) = e85 at hfr
                generalize a9.eval (.tmp 86) = e86 at hfr
                generalize a9.eval (.tmp 87) = e87 at hfr
                generalize a9.eval (.tmp 88) = e88 at hfr
                generalize a9.eval (.tmp 89) = e89 at hfr
                generalize a9.eval (.tmp 90) = e90 at hfr
                generalize a9.eval (.tmp 91) = e91 at hfr
                clear hall hm9
                refine wpList_store_part _ rfl rfl (.tmp 93) (.tmp 92) 52 rfl gs 0 96 (sC vt T gb) [.slice Az (bytesV T1.out).length cz, .int .i64 (T1.low : Int), .int .i64 (T1.width : Int)] f93 f92 (HT4.out.r.row.grown0 hg9) (by simp [sC]) (by simp [Value.oneCell']) (by kernel_rfl) ?_
                intro w8 hr8 hg8
                have HT6 := Lib.hid (HT4.out.even hg9 hzr hzs hr8 hg8)
                clear hzr hzs hr8 hg8 hg9 f92 f93
                unfold wpList
                rw [hfr]
                clear hfr
                go_simp
                go_wp2
                go_roundw
                case rel =>
                  have hres : evenS T1 (D : Int) ((i0 : Int) - 1 + 1).toNat = evenS S3.1 (D : Int) (nb - 1) := by rw [show ((i0 : Int) - 1 + 1).toNat = i0 by omega]; exact HNX2.out.2.2
                  have hlen : T1.out.length + ((i0 : Int) - 1 + 1).toNat ≤ 56040 := by have := HNX2.out.2.1; omega
                  first
                    | exact ⟨(i0 : Int) - 1, T1, _, rfl, by omega, by omega, hres, HNX2.out.1, hlen, HT6.out⟩
                    | (repeat apply Exists.intro
                       refine ⟨?_, rfl⟩
                       exact ⟨(i0 : Int) - 1, T1, _, rfl, by omega, by omega, hres, HNX2.out.1, hlen, HT6.out⟩)
                case measure =>
                  first
                    | (simp only [intOf]; omega)
                    | (show ((i0 : Int) - 1 + 1).toNat < ((i0 : Int) + 1).toNat; omega)
              · have hkf : decide (kk ≥ 0) = false := by rw [decide_eq_false_iff_not]; omega
                have hkf2 : decide (0 ≤ kk) = false := by rw [decide_eq_false_iff_not]; omega
                rw [show (kk + 1).toNat = 0 by omega] at HEV HLT
                go_wp2
                have HTE := Lib.hid (show T = evenS S3.1 (D : Int) (nb - 1) from HEV.out)
                clear HEV
                obtain ⟨Ln, hLn⟩ : ∃ Ln : Nat, t.len = (Ln : Int) := ⟨t.len.toNat, by omega⟩
                obtain ⟨Bk, hBk⟩ : ∃ Bk : Nat, t.back = (Bk : Int) := ⟨t.back.toNat, by omega⟩
                have HPK := Lib.hid (show putTok h t = copyS Bk h Ln by unfold putTok; rw [if_neg hne, hLn, hBk]; rfl)
                have hBh : Bk ≤ h.length := by have := HB0.out; omega
                have hhm : h.length ≤ 65536 := HN0.out
                have hLm : Ln ≤ 258 := by omega
                have hBp : 1 ≤ Bk := by omega
                have HLn := Lib.hid hLn
                have HBk := Lib.hid hBk
                clear hLn hBk
                go_loopw [12, 5] (fun iv u W => ∃ q : Nat, q ≤ Ln ∧ iv = .int .i64 q ∧ WrT w W gs gb (m + 1 + 8 + 4) vt T S3.2 u (copyS Bk h q) gt t) (fun iv _ _ => Ln - (intOf iv).toNat)
                case atStart => exact ⟨0, Nat.zero_le _, rfl, HT4.out⟩
                case round =>
                  obtain ⟨q, hq, rfl, hh⟩ := hrel
                  clear HT4
                  have HT5 := Lib.hid hh
                  clear hh
                  by_cases hlq : q < Ln
                  · have hql : (q : Int) < t.len := by have := HLn.out; omega
                    have hdq : decide ((q : Int) < t.len) = true := by rw [decide_eq_true_eq]; exact hql
                    have hown := HT5.out.r.own
                    have hcl := copyS_len Bk h q
                    rw [hcl] at hown
                    obtain ⟨gr, cp, hu⟩ := own_sliceB hown (by omega)
                    subst hu
                    have hidx : ((h.length + q : Nat) : Int) - t.back = ((h.length + q - Bk : Nat) : Int) := by have := HBk.out; omega
                    have hidx2 : (h.length : Int) + (q : Int) - t.back = ((h.length + q - Bk : Nat) : Int) := by have := HBk.out; omega
                    have hlt2 : h.length + q - Bk < h.length + q := by omega
                    have hsmall : h.length + q ≤ 200000 := by omega
                    obtain ⟨y, hy⟩ : ∃ y, (copyS Bk h q).getD ((copyS Bk h q).length - Bk) 0 = y := ⟨_, rfl⟩
                    have hnext : copyS Bk h (q + 1) = copyS Bk h q ++ [y] := by rw [copyS, hy]
                    have cb : wr.cell? ⟨gr, h.length + q - Bk, none⟩ = some (.int .u8 (y.toNat : Int)) := by
                      have e := hown.cellAt (h.length + q - Bk) (by omega)
                      rw [e, ← hy, hcl]
                      exact bytesV_at _ _ (by rw [hcl]; exact hlt2)
                    have ct1 := HT5.out.tk.cell (j := 1) rfl
                    have ct2 := HT5.out.tk.cell (j := 2) rfl
                    have HNY := Lib.hid hnext
                    have HCL := Lib.hid hcl
                    clear hown hcl hy hnext
                    obtain ⟨P, hP⟩ : ∃ P, h.length + q - Bk = P := ⟨_, rfl⟩
                    rw [hP] at hidx hidx2 hlt2 cb
                    have hP2 : P ≤ 200000 := by omega
                    clear hP
                    go_wp2_with (at_builtin; refine wpList_append_bytes _ rfl _ _ rfl w.heap.size _ (copyS Bk h q).length (bytesV (copyS Bk h q)) rfl (own_grown HT5.out.r.own (grown_alloc (grown_refl _ none) _)) _ [y] rfl (Rd.byteAt _ _ _ (by simp)) ?_ ?_ ?_)
                    · rw [HCL.out]; simp only [List.length_singleton]; omega
                    · have := HT5.out.r.grow.size; simp; omega
                    · intro v7 w7 ho7 hg7 hat7
                      have HT6 := Lib.hid ((HT5.out.grown0 (grown_alloc (grown_refl _ none) _)).app (c := y) ho7 hg7 (by rcases hat7 with e | e; exact .inl e; exact .inr (e.trans (by simp))))
                      rw [← HNY.out] at HT6
                      clear ho7 hg7 hat7 cb ct1 ct2
                      go_wp2
                      go_roundw
                      case rel =>
                        first
                          | exact ⟨q + 1, by omega, by go_num, HT6.out⟩
                          | (repeat apply Exists.intro
                             refine ⟨?_, rfl⟩
                             exact ⟨q + 1, by omega, by go_num, HT6.out⟩)
                      case measure =>
                        first
                          | (simp only [intOf]; omega)
                          | (show Ln - ((q : Int) + 1).toNat < Ln - (q : Int).toNat; omega)
                  · obtain rfl : Ln = q := by omega
                    have hql : ¬ (Ln : Int) < t.len := by have := HLn.out; omega
                    have hdq : decide ((Ln : Int) < t.len) = false := by rw [decide_eq_false_iff_not]; exact hql
                    have ct1 := HT5.out.tk.cell (j := 1) rfl
                    go_wp2
                    go_roundw
                    case rel =>
                      refine ⟨k + 1, m + 1 + 8 + 4, vt, by omega, by go_num, ?_, by have := HM.out; omega, ?_⟩
                      · rw [HP1.out, HPT.out]; rfl
                      · rw [HP1.out, HPT.out, HPZ.out, HPK.out, ← HTE.out]; exact HT5.out.r
                    case measure => simp only [intOf]; omega
      · have hz0 : t.len = 0 := by omega
        have q0 : (t.len == 0) = true := by rw [hz0]; rfl
        have HPZ := Lib.hid (show putT S ⟨L, kd, h⟩ t = treeB S1.1 S1.2 (2 + 256 * upper h) (t.lit.toNat : Int) 8 1 by
          unfold putT
          rw [if_neg hz, ← HS1.out]
          rw [show decide (0 < t.len) = false by simpa using hz])
        have hdz : decide (0 < t.len) = false := by simpa using hz
        have HPK := Lib.hid (show putTok h t = h ++ [t.lit] by unfold putTok; rw [if_pos hz0])
        have HLT := Lib.hid (UInt8.toNat_lt t.lit)
        have HU := Lib.hid (upper_lt h)
        by_cases hh0 : 0 < h.length
        · have hdl : decide (0 < (h.length : Int)) = true := by rw [decide_eq_true_eq]; omega
          have hdl2 : decide (0 < h.length) = true := by rw [decide_eq_true_eq]; omega
          obtain ⟨q, hq⟩ : ∃ q, h.length = q + 1 := ⟨h.length - 1, by omega⟩
          obtain ⟨y, hy⟩ : ∃ y, h.getLastD 0 = y := ⟨_, rfl⟩
          obtain ⟨b5, c6, hb5⟩ : ∃ b c, Value.slice A5 h.length c5 = .slice (some ⟨b, 0, none⟩) h.length c := own_sliceB HT.out.r.own hh0
          injection hb5 with e1 e2 e3
          subst e1 e3
          rw [hq] at HT
          have HUP := Lib.hid (show upper h = y.toNat / 32 by unfold upper; rw [hy])
          have HYC := Lib.hid (fun (W : World) (ho : W.ownsRow w.heap.size 5 1 (.slice (some ⟨b5, 0, none⟩) (q + 1) c5) h.length (bytesV h)) => (show W.cell? ⟨b5, q, none⟩ = some (.int .u8 (y.toNat : Int)) by
            rw [hq] at ho
            have e := ho.cellAt q (by omega)
            rw [e]
            have e2 : h[q]? = some y := by
              rw [List.getLastD_eq_getLast?, List.getLast?_eq_getElem?, hq, Nat.add_sub_cancel] at hy
              rw [List.getElem?_eq_getElem (by omega)] at hy ⊢
              rw [← hy]; rfl
            simp [bytesV, byteV, e2]))
          have hyl : y.toNat < 256 := UInt8.toNat_lt y
          obtain ⟨yn, hyn⟩ : ∃ yn, y.toNat = yn := ⟨_, rfl⟩
          rw [hyn] at HYC HUP hyl
          obtain ⟨z, hz32⟩ : ∃ z, yn / 32 = z := ⟨_, rfl⟩
          rw [hz32] at HUP
          have hy32 : ((yn : Int)).tdiv 32 = (z : Int) := by rw [Int.tdiv_eq_ediv_of_nonneg (by omega)]; omega
          have hz8 : z < 8 := by omega
          clear hyn hz32
          have hqi : ((h.length : Nat) : Int) - 1 = (q : Int) := by omega
          have hqlt3 : q < q + 1 := by omega
          have hqlt : q < h.length := by omega
          have hqlt2 : (q : Int) < ((h.length : Nat) : Int) := by omega
          have hqb : q < 100000000 := by have := HN0.out; omega
          clear hy
          have HPZ2 := Lib.hid (HPZ.out.trans (show _ = treeB S1.1 S1.2 (2 + 256 * z) (t.lit.toNat : Int) 8 1 by rw [HUP.out]))
          have HTR := Lib.hid (fun (M : Int → Option Int) (W : World) (h1 : Rd W v3 (bytesV S1.1.out)) (h2 : Mi W gb (m + 1) M) (h3 : MR M S1.2) => treeR_any v3 S1.1 gb (m + 1) M S1.2 (2 + 256 * z) 256 (10000 + 1000 * (z : Int)) t.lit.toNat 8 W h1 h2 h3 HB2.out HB1.out.2 (by have := HU.out; have := HUP.out; omega) (fun q hq => key_lits (w := z) (q := q) (by have := HU.out; have := HUP.out; omega) hq) (by have := HU.out; have := HUP.out; omega) HB1.out.1 (by have := HB3.out; omega) (by have := HM.out; omega) (by decide) (by decide) (by have := HLT.out; omega))
          obtain ⟨S2, hS2⟩ : ∃ S2, treeB S1.1 S1.2 (2 + 256 * z) (t.lit.toNat : Int) 8 1 = S2 := ⟨_, rfl⟩
          rw [hS2] at HPZ2 HTR
          clear hS2 HPZ
          have hlt256 : t.lit.toNat < 256 := HLT.out
          go_wp2_with (first
            | (refine wpList_store_row _ rfl rfl _ _ 96 rfl gs 96 _ (sC v3 S1.1 gb) rfl rfl HR3.out rfl (by obtain ⟨A, c, e⟩ := HV3.out.1.form; rw [e]; simp [sC, Value.oneCell']) (by kernel_rfl) ?_; intro w4 hr4 hg4; have HT2 := Lib.hid (HT.out.step HV3.out.1 HV3.out.2.1 HV3.out.2.2 HG3.out HS3.out hr4 hg4); have e1 := HT2.out.tk.cell (j := 1) rfl; have e0 := HT2.out.tk.cell (j := 0) rfl; have yc := HYC.out _ HT2.out.r.own; clear hr4 hg4)
            | (refine wpList_load_row _ rfl _ 96 rfl gs 96 _ _ rfl HT2.out.r.row Try.underlying96 rfl (by kernel_rfl) ?_)
            | (refine wpList_runs rfl (ex_minc 1 rfl rfl) ?_; rw [hmk]))
          obtain ⟨M4, m41, m42⟩ := HT2.out.r.map
          refine (HTR.out M4 w4 HT2.out.r.rd m41 m42).mono ?_
          rintro e w5 ⟨v5, M5, rfl, hr5, hm5, hM5, hg5, hs5⟩
          have HV5 := Lib.hid (show Rd w5 v5 (bytesV S2.1.out) ∧ Mi w5 gb (m + 1 + 8) M5 ∧ MR M5 S2.2 from ⟨hr5, hm5, hM5⟩)
          have HG5 := Lib.hid hg5
          have HS5 := Lib.hid hs5
          have HR5 := Lib.hid (HT2.out.r.row.grown hg5 (fun e => HT2.out.r.new.2.2 (Option.some.inj e).symm))
          clear hr5 hm5 hM5 hg5 hs5 e0 e1 m41 m42 yc HTR
          go_wp2_with (first
            | (refine wpList_store_row _ rfl rfl _ _ 96 rfl gs 96 _ (sC v5 S2.1 gb) rfl rfl HR5.out rfl (by obtain ⟨A, c, e⟩ := HV5.out.1.form; rw [e]; simp [sC, Value.oneCell']) (by kernel_rfl) ?_; intro w4 hr4 hg4; have HT3 := Lib.hid (HT2.out.step HV5.out.1 HV5.out.2.1 HV5.out.2.2 HG5.out HS5.out hr4 hg4); have e0 := HT3.out.tk.cell (j := 0) rfl; clear hr4 hg4)
            | (at_builtin; refine wpList_append_bytes _ rfl _ _ rfl w.heap.size _ h.length (bytesV h) rfl (own_grown HT3.out.r.own (grown_alloc (grown_refl _ none) _)) _ [t.lit] rfl (Rd.byteAt _ _ _ (by simp)) ?_ ?_ ?_))
          · simp only [List.length_singleton]; omega
          · have := HT3.out.r.grow.size; simp; omega
          · intro v7 w7 ho7 hg7 hat7
            have HT4 := Lib.hid ((HT3.out.grown0 (grown_alloc (grown_refl _ none) _)).app (c := t.lit) (by rw [hq]; exact ho7) hg7 (by rcases hat7 with e | e; exact .inl e; exact .inr (e.trans (by simp))))
            clear ho7 hg7 hat7
            go_wp2
            go_roundw
            case rel =>
              refine ⟨k + 1, m + 1 + 8, v5, by omega, rfl, ?_, by have := HM.out; omega, ?_⟩
              · have h9 : kn = 0 := by rw [← HKE.out]; unfold kindN; rw [if_neg (by omega)]
                rw [HP1.out, HPT.out, h9]; rfl
              · rw [HP1.out, HPT.out, HPZ2.out, HPK.out]; exact HT4.out.r
            case measure => simp only [intOf]; omega
        · have hdl : decide (0 < (h.length : Int)) = false := by rw [decide_eq_false_iff_not]; omega
          have hdl2 : decide (0 < h.length) = false := by rw [decide_eq_false_iff_not]; omega
          obtain rfl : h = [] := List.eq_nil_of_length_eq_zero (by omega)
          rw [List.length_nil] at HT
          have HUP := Lib.hid (show upper [] = 0 from rfl)
          have HPZ2 := Lib.hid (HPZ.out.trans (show _ = treeB S1.1 S1.2 (2 + 256 * 0) (t.lit.toNat : Int) 8 1 by rw [HUP.out]))
          have HTR := Lib.hid (fun (M : Int → Option Int) (W : World) (h1 : Rd W v3 (bytesV S1.1.out)) (h2 : Mi W gb (m + 1) M) (h3 : MR M S1.2) => treeR_any v3 S1.1 gb (m + 1) M S1.2 (2 + 256 * 0) 256 (10000 + 1000 * 0) t.lit.toNat 8 W h1 h2 h3 HB2.out HB1.out.2 (by have := HU.out; have := HUP.out; omega) (fun q hq => key_lits (w := 0) (q := q) (by have := HU.out; have := HUP.out; omega) hq) (by have := HU.out; have := HUP.out; omega) HB1.out.1 (by have := HB3.out; omega) (by have := HM.out; omega) (by decide) (by decide) (by have := HLT.out; omega))
          obtain ⟨S2, hS2⟩ : ∃ S2, treeB S1.1 S1.2 (2 + 256 * 0) (t.lit.toNat : Int) 8 1 = S2 := ⟨_, rfl⟩
          rw [hS2] at HPZ2 HTR
          clear hS2 HPZ
          have hlt256 : t.lit.toNat < 256 := HLT.out
          go_wp2_with (first
            | (refine wpList_store_row _ rfl rfl _ _ 96 rfl gs 96 _ (sC v3 S1.1 gb) rfl rfl HR3.out rfl (by obtain ⟨A, c, e⟩ := HV3.out.1.form; rw [e]; simp [sC, Value.oneCell']) (by kernel_rfl) ?_; intro w4 hr4 hg4; have HT2 := Lib.hid (HT.out.step HV3.out.1 HV3.out.2.1 HV3.out.2.2 HG3.out HS3.out hr4 hg4); have e1 := HT2.out.tk.cell (j := 1) rfl; have e0 := HT2.out.tk.cell (j := 0) rfl; clear hr4 hg4)
            | (refine wpList_load_row _ rfl _ 96 rfl gs 96 _ _ rfl HT2.out.r.row Try.underlying96 rfl (by kernel_rfl) ?_)
            | (refine wpList_runs rfl (ex_minc 1 rfl rfl) ?_; rw [hmk]))
          obtain ⟨M4, m41, m42⟩ := HT2.out.r.map
          refine (HTR.out M4 w4 HT2.out.r.rd m41 m42).mono ?_
          rintro e w5 ⟨v5, M5, rfl, hr5, hm5, hM5, hg5, hs5⟩
          have HV5 := Lib.hid (show Rd w5 v5 (bytesV S2.1.out) ∧ Mi w5 gb (m + 1 + 8) M5 ∧ MR M5 S2.2 from ⟨hr5, hm5, hM5⟩)
          have HG5 := Lib.hid hg5
          have HS5 := Lib.hid hs5
          have HR5 := Lib.hid (HT2.out.r.row.grown hg5 (fun e => HT2.out.r.new.2.2 (Option.some.inj e).symm))
          clear hr5 hm5 hM5 hg5 hs5 e0 e1 m41 m42 HTR
          go_wp2_with (first
            | (refine wpList_store_row _ rfl rfl _ _ 96 rfl gs 96 _ (sC v5 S2.1 gb) rfl rfl HR5.out rfl (by obtain ⟨A, c, e⟩ := HV5.out.1.form; rw [e]; simp [sC, Value.oneCell']) (by kernel_rfl) ?_; intro w4 hr4 hg4; have HT3 := Lib.hid (HT2.out.step HV5.out.1 HV5.out.2.1 HV5.out.2.2 HG5.out HS5.out hr4 hg4); have e0 := HT3.out.tk.cell (j := 0) rfl; clear hr4 hg4)
            | (at_builtin; refine wpList_append_bytes _ rfl _ _ rfl w.heap.size _ 0 (bytesV []) rfl (own_grown HT3.out.r.own (grown_alloc (grown_refl _ none) _)) _ [t.lit] rfl (Rd.byteAt _ _ _ (by simp)) ?_ ?_ ?_))
          · simp only [List.length_singleton]; omega
          · have := HT3.out.r.grow.size; simp; omega
          · intro v7 w7 ho7 hg7 hat7
            have HT4 := Lib.hid ((HT3.out.grown0 (grown_alloc (grown_refl _ none) _)).app (c := t.lit) ho7 hg7 (by rcases hat7 with e | e; exact .inl e; exact .inr (e.trans (by simp))))
            clear ho7 hg7 hat7
            go_wp2
            go_roundw
            case rel =>
              refine ⟨k + 1, m + 1 + 8, v5, by omega, rfl, ?_, by have := HM.out; omega, ?_⟩
              · have h9 : kn = 0 := by rw [← HKE.out]; unfold kindN; rw [if_neg (by omega)]
                rw [HP1.out, HPT.out, h9]; rfl
              · rw [HP1.out, HPT.out, HPZ2.out, HPK.out]; exact HT4.out.r
            case measure => simp only [intOf]; omega
    · obtain rfl : k = n := by omega
      have hd : decide ((k : Int) < (k : Int)) = false := by simp
      have HO := Lib.hid (putsP_ok l pst0_ok)
      have HOL := Lib.hid (putsP_out HE.out l.length (Nat.le_refl _))
      rw [List.take_of_length_le (by rw [HN.out]; exact Nat.le_refl _)] at HH
      rw [List.take_length] at HOL
      obtain ⟨Av, cv, rfl⟩ := HH.out.rd.form
      rw [bytesV_len] at HH
      have HEND := Lib.hid (rend_any _ (putsP pst0 l).s wr HH.out.rd HO.out.s.ok.low (by have := HOL.out; have := HL.out; have := HN.out; omega))
      rw [show endS (putsP pst0 l).s = writeS l from rfl] at HEND
      rw [List.take_of_length_le (by rw [HN.out]; exact Nat.le_refl _)]
      generalize (putsP pst0 l).s = S at *
      go_wp2_with (refine wpList_load_part _ rfl _ 52 rfl gs 0 96 _ [.slice Av S.out.length cv, .int .i64 (S.low : Int), .int .i64 (S.width : Int)] _ rfl HH.out.row (fun j u hu => by rcases j with _ | _ | _ | j <;> (first | (simp at hu; done) | simpa [sC] using hu)) Try.underlying52 rfl (by kernel_rfl) ?_)
      refine HEND.out.mono ?_
      rintro e w3 ⟨u, rfl, hr, hg⟩
      have HF := Lib.hid (And.intro hr hg)
      clear hr hg
      go_wp2
      go_ret
      exact ⟨u, rfl, HF.out.1, HH.out.grow.trans HF.out.2⟩
end Go.Proofs.Ytibofgokdjbomaa
