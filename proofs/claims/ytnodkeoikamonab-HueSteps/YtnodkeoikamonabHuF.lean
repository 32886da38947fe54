/-
  Hue: Weak, Sorts
-/
import Derived.Test.YtnodkeoikamonabHuE
namespace Go.Proofs.Ytnodkeoikamonab
open Go.RowKit
set_option linter.unusedVariables false
set_option linter.unusedSimpArgs false
set_option linter.unnecessarySimpa false
set_option maxRecDepth 20000
namespace Hu
open Gr

set_option maxHeartbeats 4000000 in
theorem weak_ok {c : Vc} {a : Av} {w : World} {gl bs : List Int} {ba : Option Addr} {bc : Nat} (hy : Hy w c a gl ba bs) : Calls Try.prog 16 #[vl c a, .slice ba bs.length bc] w fun e w' => e = .returned (.tuple #[.int .i64 (fs (wkp c.os (gl ++ bs)) c.os.length : Int), .int .i64 (er (fs (wkp c.os (gl ++ bs)) c.os.length))]) ∧ Below w.heap.size w w' := by
  obtain ⟨W0, hW0, B0, R0⟩ := vbox w c a
  have V0 := hide (vcells R0)
  have HB0 := hide B0
  have HY0 := hide (hy.below B0)
  have l0 : w.heap.size < W0.heap.size := R0.lt
  have CO := hide (HY0.out.coloured (bc := bc))
  have HBd := hide hy.b
  have hno := hy.b.no
  clear hy B0 R0
  obtain ⟨ph, co, ro, aa, na, ca, ra, cr, wa, nw, cw, oa, cb, fa, nf, cf, ga, ng, cg, qa, cq, k0, k1, k2, k3⟩ := a
  simp only [vl] at CO ⊢
  simp only at hW0 V0 HY0 CO
  unfold Kt at CO
  obtain ⟨n, hn⟩ : ∃ n, c.os.length = n := ⟨_, rfl⟩
  obtain ⟨nr, hnre⟩ : ∃ nr, c.rs.length = nr := ⟨_, rfl⟩
  obtain ⟨nqz, hnqe⟩ : ∃ nqz, c.qu.length = nqz := ⟨_, rfl⟩
  obtain ⟨nbs, hnbs⟩ : ∃ nbs, bs.length = nbs := ⟨_, rfl⟩
  obtain ⟨ws, hws⟩ : ∃ ws, gl ++ bs = ws := ⟨_, rfl⟩
  obtain ⟨os, hos⟩ : ∃ os, c.os = os := ⟨_, rfl⟩
  have HS0 := hide HY0.out.s
  have HN0 := hide HY0.out.n
  have HNL := hide HY0.out.nl
  have HCB := hide HY0.out.cb
  have HNO := hide HY0.out.no
  rw [hos] at HS0 HN0 HNL HNO HBd hn
  simp only at HS0 HN0 HCB
  simp only [hos, hws] at CO ⊢
  simp only [hn, hos, hnre, hnqe, hnbs] at hW0 V0 CO hno ⊢
  have Hn := hide hn
  obtain ⟨c0, c1, c2, c3, c4, c5, c6, c7, c8, c9, c10, c11, c12, c13⟩ := V0.out
  clear hn hnre hnqe hos hnbs hws HY0 V0
  have HLF := hide (fun (ws : List Int) (r : Nat) (h : Lo os ws (so os ws 3 os.length) r) => h.fs)
  simp only [Hn.out] at HLF
  go_enter Try.func16, Try.ntmps16
  go_upto_region 2 with (go_at_call 45; refine CO.out.mono ?_; rintro e w1 ⟨g, rfl, hg, hrow, hb⟩; have HG1 := hide hrow; have HB1 := hide hb; simp only [kv]; clear hrow hb)
  obtain ⟨W2, hW2, B2, R2⟩ := kbox w1 (.slice oa n cb) (.slice (some ⟨g, 0, none⟩) n n)
  have s2 : w1.heap.size < W2.heap.size := R2.lt
  have HB2 := hide B2
  have DF := hide (fun (wx : World) (hb : Below W2.heap.size W2 wx) => show wx.cell? ⟨w1.heap.size, 0, none⟩ = some (.slice oa n cb) ∧ wx.cell? ⟨w1.heap.size, 1, none⟩ = some (.slice (some ⟨g, 0, none⟩) n n) from ⟨(row_on R2 hb).cell (i := 0) (by decide), (row_on R2 hb).cell (i := 1) (by decide)⟩)
  have HG2 := hide (row_on HG1.out B2)
  have BW2 := hide (show Below W0.heap.size W0 W2 from HB1.out.trans (B2.mono HB1.out.size))
  have HS2 := hide (HS0.out.below BW2.out)
  have HN2 := hide (HN0.out.below BW2.out)
  have BF := hide (fun (wx : World) (hb : Below W2.heap.size W2 wx) => show Below w.heap.size w wx from HB0.out.trans ((BW2.out.trans (hb.mono BW2.out.size)).mono HB0.out.size))
  have hg2 : g < W2.heap.size := HG2.out.lt
  have DW := DF.out W2 (Below.refl _ _)
  obtain ⟨d0, d1⟩ := DW
  simp only [hW2]
  clear hW2 B2 R2 HG1 c0 c1 c2 c3 c4 c5 c6 c7 c8 c9 c10 c11 c12 c13 hW0 CO
  have WO := hide (fun (wx : World) (hb : Below W2.heap.size W2 wx) (u : Int) (hu : 0 ≤ u ∧ u < 18446744073709551616) => whiteOf_ok (cb := cb) (ws := ws) (HS2.out.below hb) HBd.out (by rw [Hn.out]; exact row_on HG2.out hb) hu)
  have SH := hide (fun (wx : World) (hb : Below W2.heap.size W2 wx) => sheltered_ok (cb := cb) (ws := ws) (HS2.out.below hb) HBd.out (HN2.out.below hb) HNL.out HCB.out HNO.out (by rw [Hn.out]; exact row_on HG2.out hb))
  have SO := hide (fun (wx : World) (hb : Below W2.heap.size W2 wx) => slotsOf_ok (cb := cb) (ws := ws) (HS2.out.below hb) HBd.out (HN2.out.below hb) HNL.out (by rw [Hn.out]; exact row_on HG2.out hb) 3)
  have HWd3 := hide (so_wd HBd.out ws 3 os.length)
  have hl3 := Nat.le_trans (so_len os ws 3 os.length) HNL.out
  simp only [kv, Hn.out] at WO SH SO HWd3 hl3
  have HLX := hide (HLF.out ws)
  obtain ⟨sl, hsl⟩ : ∃ sl, so os ws 3 n = sl := ⟨_, rfl⟩
  rw [hsl] at HWd3 hl3 SO HLX
  unfold Ut at SO
  unfold Bt at SH
  obtain ⟨m, hm⟩ : ∃ m, sl.length = m := ⟨_, rfl⟩
  rw [hm] at hl3 SO
  have Hm := hide hm
  clear hsl hm HLF
  go_upto_region 3 with (go_at_call 47; refine (SH.out _ (Below.refl _ _)).mono ?_; rintro e w3 ⟨gr, rfl, hgr, hrow, hb⟩; have HR3 := hide hrow; have HB3 := hide hb; clear hrow hb)
  clear d0 d1
  obtain ⟨d0, d1⟩ := DF.out w3 HB3.out
  go_upto_region 5 with (go_at_call 48; refine (SO.out _ HB3.out).mono ?_; rintro e w4 ⟨ao, c4, rfl, hown, hb⟩; have HO4 := hide (own_seesU hown); have HB4 := hide hb; clear hown hb)
  have HR4 := hide (row_on HR3.out HB4.out)
  have BW4 := hide (show Below W2.heap.size W2 w4 from HB3.out.trans (HB4.out.mono HB3.out.size))
  clear d0 d1 HR3 SH SO
  go_loopw [8, 20] (fun v i wr => ∃ (j r : Nat), j ≤ m ∧ v = .int .i64 r ∧ i = .int .i64 j ∧ Hid (Lo os ws (sl.take j) r) ∧ Hid (Below w4.heap.size w4 wr)) (fun _ i _ => m - (intOf i).toNat)
  case atStart => exact ⟨0, 0, Nat.zero_le _, rfl, rfl, (by simpa using lo_nil os ws : Lo os ws (sl.take 0) 0), Below.refl _ _⟩
  case round =>
    obtain ⟨j, r, hj, rfl, rfl, HL, HB⟩ := hrel
    have HB5 := hide (show Below W2.heap.size W2 wr from BW4.out.trans (HB.out.mono BW4.out.size))
    by_cases hlt2 : j < m
    · have hjn : (j : Int) < (m : Int) := by omega
      obtain ⟨u, hu⟩ : ∃ u, sl[j]? = some u := ⟨sl[j]'(by rw [Hm.out]; exact hlt2), by simp [Hm.out, hlt2]⟩
      obtain ⟨b2, off2, hai, hbl3, hcc2⟩ := HO4.out.below HB.out j u hu
      subst hai
      have hum := List.mem_of_getElem? hu
      have WX := hide (WO.out wr HB5.out u (HWd3.out u hum))
      obtain ⟨d0, d1⟩ := DF.out wr HB5.out
      have TK : sl.take (j + 1) = sl.take j ++ [u] := by rw [List.take_add_one, hu]; rfl
      have SK := hide (fun (h : wh os ws u = 0 ∨ shb os ws (wh os ws u - 1) = true ∨ (r ≠ 0 ∧ r ≤ wh os ws u)) => show Lo os ws (sl.take (j + 1)) r by rw [TK]; exact HL.out.skip h)
      have TA := hide (fun (h0 : wh os ws u ≠ 0) (h1 : shb os ws (wh os ws u - 1) = false) (h2 : r = 0 ∨ wh os ws u < r) => show Lo os ws (sl.take (j + 1)) (wh os ws u) by rw [TK]; exact HL.out.take h0 h1 h2)
      have hwn := wh_le os ws u
      rw [Hn.out] at hwn
      obtain ⟨p, hp⟩ : ∃ p, wh os ws u = p := ⟨_, rfl⟩
      rw [hp] at WX SK TA hwn
      clear hu hum hp TK
      by_cases hp0 : p = 0
      · subst hp0
        have NN := hide (SK.out (.inl rfl))
        clear SK TA
        go_wp2_with (go_at_call 46; refine WX.out.mono ?_; rintro e w6 ⟨rfl, hb⟩; have HB6 := hide hb; clear hb)
        go_roundw
        case rel => exact ⟨j + 1, r, by omega, rfl, by go_num, NN.out, HB.out.trans (HB6.out.mono HB.out.size)⟩
        case measure => simp [intOf]; omega
      · obtain ⟨q, rfl⟩ : ∃ q, p = q + 1 := ⟨p - 1, by omega⟩
        have hq : q < n := by omega
        have hq2 : (q : Int) < (n : Int) := by omega
        have bx := (HB.out.cell (p := ⟨gr, q, none⟩) HR4.out.lt).trans (HR4.out.cell hq)
        have hgrw : gr < wr.heap.size := Nat.lt_of_lt_of_le HR4.out.lt HB.out.size
        have q0 : (((q : Int) + 1) != 0) = true := by simp; omega
        rw [show q + 1 - 1 = q by omega] at SK TA
        obtain ⟨sv, hsv⟩ : ∃ sv, shb os ws q = sv := ⟨_, rfl⟩
        rw [hsv] at SK TA bx
        clear hsv hp0
        cases sv
        · by_cases hr0 : r = 0
          · subst hr0
            have NN := hide (TA.out (by omega) rfl (.inl rfl))
            clear SK TA
            go_wp2_with (go_at_call 46; refine WX.out.mono ?_; rintro e w6 ⟨rfl, hb⟩; have HB6 := hide hb; have bx6 := (HB6.out.cell (p := ⟨gr, q, none⟩) hgrw).trans bx; clear hb)
            go_roundw
            case rel => exact ⟨j + 1, q + 1, by omega, rfl, by go_num, NN.out, HB.out.trans (HB6.out.mono HB.out.size)⟩
            case measure => simp [intOf]; omega
          · have r0 : ((r : Int) == 0) = false := by simp [hr0]
            have r1 : ¬ (r : Int) = 0 := by omega
            by_cases hlr : q + 1 < r
            · have NN := hide (TA.out (by omega) rfl (.inr hlr))
              have hlr2 : (q : Int) + 1 < (r : Int) := by omega
              clear SK TA hr0
              go_wp2_with (go_at_call 46; refine WX.out.mono ?_; rintro e w6 ⟨rfl, hb⟩; have HB6 := hide hb; have bx6 := (HB6.out.cell (p := ⟨gr, q, none⟩) hgrw).trans bx; clear hb)
              go_roundw
              case rel => exact ⟨j + 1, q + 1, by omega, rfl, by go_num, NN.out, HB.out.trans (HB6.out.mono HB.out.size)⟩
              case measure => simp [intOf]; omega
            · have NN := hide (SK.out (.inr (.inr ⟨hr0, by omega⟩)))
              have hlr2 : ¬ (q : Int) + 1 < (r : Int) := by omega
              clear SK TA hr0
              go_wp2_with (go_at_call 46; refine WX.out.mono ?_; rintro e w6 ⟨rfl, hb⟩; have HB6 := hide hb; have bx6 := (HB6.out.cell (p := ⟨gr, q, none⟩) hgrw).trans bx; clear hb)
              go_roundw
              case rel => exact ⟨j + 1, r, by omega, rfl, by go_num, NN.out, HB.out.trans (HB6.out.mono HB.out.size)⟩
              case measure => simp [intOf]; omega
        · have NN := hide (SK.out (.inr (.inl rfl)))
          clear SK TA
          go_wp2_with (go_at_call 46; refine WX.out.mono ?_; rintro e w6 ⟨rfl, hb⟩; have HB6 := hide hb; have bx6 := (HB6.out.cell (p := ⟨gr, q, none⟩) hgrw).trans bx; clear hb)
          go_roundw
          case rel => exact ⟨j + 1, r, by omega, rfl, by go_num, NN.out, HB.out.trans (HB6.out.mono HB.out.size)⟩
          case measure => simp [intOf]; omega
    · have hjn : ¬ (j : Int) < (m : Int) := by omega
      have e0 : sl.take j = sl := List.take_of_length_le (by rw [Hm.out]; omega)
      rw [e0] at HL
      have FX := hide (HLX.out r HL.out)
      by_cases hr0 : r = 0
      · subst hr0
        go_wp2_with fail
        refine bodyPost_ret (v := .tuple #[.int .i64 0, .int .i64 0]) (by simp [results, Try.results16, go_sem, *]) rfl ?_
        rw [FX.out]
        exact ⟨by rw [er0 rfl]; rfl, BF.out _ HB5.out⟩
      · have r0 : ((r : Int) != 0) = true := by simp [hr0]
        have r1 : ¬ (r : Int) = 0 := by omega
        go_wp2_with fail
        refine bodyPost_ret (v := .tuple #[.int .i64 (r : Int), .int .i64 150]) (by simp [results, Try.results16, go_sem, *]) rfl ?_
        rw [FX.out]
        exact ⟨by rw [er1 hr0], BF.out _ HB5.out⟩

/-- Three lists of numbers that a call tells, each in memory of its own. -/
def Tt (w w' : World) (e : Ending) (l1 l2 l3 : List Int) : Prop := ∃ a1 c1 a2 c2 a3 c3, e = .returned (.tuple #[.slice a1 l1.length c1, .slice a2 l2.length c2, .slice a3 l3.length c3]) ∧ w'.ownsRow w.heap.size 3 1 (.slice a1 l1.length c1) l1.length (ncs l1) ∧ w'.ownsRow w.heap.size 3 1 (.slice a2 l2.length c2) l2.length (ncs l2) ∧ w'.ownsRow w.heap.size 3 1 (.slice a3 l3.length c3) l3.length (ncs l3) ∧ Below w.heap.size w w'
set_option maxHeartbeats 4000000 in
theorem sorts_ok {c : Vc} {a : Av} {w : World} {gl bs : List Int} {ba : Option Addr} {bc : Nat} (hy : Hy w c a gl ba bs) : Calls Try.prog 18 #[vl c a, .slice ba bs.length bc] w fun e w' => Tt w w' e (nb c.os (gl ++ bs) 1 c.os.length) (nb c.os (gl ++ bs) 2 c.os.length) (nb c.os (gl ++ bs) 3 c.os.length) := by
  obtain ⟨W0, hW0, B0, R0⟩ := vbox w c a
  have V0 := hide (vcells R0)
  have HB0 := hide B0
  have HY0 := hide (hy.below B0)
  have l0 : w.heap.size < W0.heap.size := R0.lt
  have CO := hide (HY0.out.coloured (bc := bc))
  have HBd := hide hy.b
  have hno := hy.b.no
  clear hy B0 R0
  obtain ⟨ph, co, ro, aa, na, ca, ra, cr, wa, nw, cw, oa, cb, fa, nf, cf, ga, ng, cg, qa, cq, k0, k1, k2, k3⟩ := a
  simp only [vl] at CO ⊢
  simp only at hW0 V0 HY0 CO
  unfold Kt at CO
  obtain ⟨n, hn⟩ : ∃ n, c.os.length = n := ⟨_, rfl⟩
  obtain ⟨nr, hnre⟩ : ∃ nr, c.rs.length = nr := ⟨_, rfl⟩
  obtain ⟨nqz, hnqe⟩ : ∃ nqz, c.qu.length = nqz := ⟨_, rfl⟩
  obtain ⟨nbs, hnbs⟩ : ∃ nbs, bs.length = nbs := ⟨_, rfl⟩
  obtain ⟨ws, hws⟩ : ∃ ws, gl ++ bs = ws := ⟨_, rfl⟩
  obtain ⟨os, hos⟩ : ∃ os, c.os = os := ⟨_, rfl⟩
  have HS0 := hide HY0.out.s
  have HN0 := hide HY0.out.n
  have HNL := hide HY0.out.nl
  have HCB := hide HY0.out.cb
  have HNO := hide HY0.out.no
  rw [hos] at HS0 HN0 HNL HNO HBd hn
  simp only at HS0 HN0 HCB
  simp only [hos, hws] at CO ⊢
  simp only [hn, hos, hnre, hnqe, hnbs] at hW0 V0 CO hno ⊢
  have Hn := hide hn
  obtain ⟨c0, c1, c2, c3, c4, c5, c6, c7, c8, c9, c10, c11, c12, c13⟩ := V0.out
  clear hn hnre hnqe hos hnbs hws HY0 V0
  obtain ⟨l1, hl1⟩ : ∃ l, nb os ws 1 n = l := ⟨_, rfl⟩
  obtain ⟨l2, hl2⟩ : ∃ l, nb os ws 2 n = l := ⟨_, rfl⟩
  obtain ⟨l3, hl3⟩ : ∃ l, nb os ws 3 n = l := ⟨_, rfl⟩
  obtain ⟨n1, hn1⟩ : ∃ m, l1.length = m := ⟨_, rfl⟩
  obtain ⟨n2, hn2⟩ : ∃ m, l2.length = m := ⟨_, rfl⟩
  obtain ⟨n3, hn3⟩ : ∃ m, l3.length = m := ⟨_, rfl⟩
  rw [hl1, hl2, hl3]
  unfold Tt
  rw [hn1, hn2, hn3]
  have HE := hide (And.intro hl1 (And.intro hl2 (And.intro hl3 (And.intro hn1 (And.intro hn2 hn3)))))
  clear hl1 hl2 hl3 hn1 hn2 hn3
  go_enter Try.func18, Try.ntmps18
  go_upto_region 2 with (go_at_call 45; refine CO.out.mono ?_; rintro e w1 ⟨g, rfl, hg, hrow, hb⟩; have HG1 := hide hrow; have HB1 := hide hb; simp only [kv]; clear hrow hb)
  obtain ⟨W2, hW2, B2, R2⟩ := kbox w1 (.slice oa n cb) (.slice (some ⟨g, 0, none⟩) n n)
  have s2 : w1.heap.size < W2.heap.size := R2.lt
  have HB2 := hide B2
  have DF := hide (fun (wx : World) (hb : Below W2.heap.size W2 wx) => show wx.cell? ⟨w1.heap.size, 0, none⟩ = some (.slice oa n cb) ∧ wx.cell? ⟨w1.heap.size, 1, none⟩ = some (.slice (some ⟨g, 0, none⟩) n n) from ⟨(row_on R2 hb).cell (i := 0) (by decide), (row_on R2 hb).cell (i := 1) (by decide)⟩)
  have HG2 := hide (row_on HG1.out B2)
  have BW2 := hide (show Below W0.heap.size W0 W2 from HB1.out.trans (B2.mono HB1.out.size))
  have HS2 := hide (HS0.out.below BW2.out)
  have HN2 := hide (HN0.out.below BW2.out)
  have BF := hide (fun (wx : World) (hb : Below W2.heap.size W2 wx) => show Below w.heap.size w wx from HB0.out.trans ((BW2.out.trans (hb.mono BW2.out.size)).mono HB0.out.size))
  have hg2 : g < W2.heap.size := HG2.out.lt
  have DW := DF.out W2 (Below.refl _ _)
  obtain ⟨d0, d1⟩ := DW
  simp only [hW2]
  clear hW2 B2 R2 HG1 c0 c1 c2 c3 c4 c5 c6 c7 c8 c9 c10 c11 c12 c13 hW0 CO
  have NO := hide (fun (wx : World) (hb : Below W2.heap.size W2 wx) (c : Int) => numbersOf_ok (cb := cb) (ws := ws) (HS2.out.below hb) HBd.out (by rw [Hn.out]; exact row_on HG2.out hb) c)
  simp only [kv, Hn.out] at NO
  unfold Nt at NO
  have N1 := hide (fun (wx : World) (hb : Below W2.heap.size W2 wx) => NO.out wx hb 1)
  have N2 := hide (fun (wx : World) (hb : Below W2.heap.size W2 wx) => NO.out wx hb 2)
  have N3 := hide (fun (wx : World) (hb : Below W2.heap.size W2 wx) => NO.out wx hb 3)
  rw [HE.out.1, HE.out.2.2.2.1] at N1
  rw [HE.out.2.1, HE.out.2.2.2.2.1] at N2
  rw [HE.out.2.2.1, HE.out.2.2.2.2.2] at N3
  clear d0 d1 NO
  have D1 : Below W2.heap.size W2 W2.drew := ⟨rfl, rfl, rfl, Nat.le_refl _, fun _ _ => rfl⟩
  have K0 := DF.out W2.drew D1
  go_region_held (fun w' => w'.cell? ⟨w1.heap.size, 0, none⟩ = some (.slice oa n cb) ∧ w'.cell? ⟨w1.heap.size, 1, none⟩ = some (.slice (some ⟨g, 0, none⟩) n n)) (first | exact K0 | exact K1 | exact K2 | exact K3) (first
    | (go_at_call_of 52 (Value.int .i64 1); refine (N1.out _ (by exact D1)).mono ?_; rintro e w3 ⟨a1, cp1, rfl, ho, hb⟩; have O1 := hide ho; have B3 := hide (D1.trans (hb.mono D1.size)); have K1 := DF.out w3 B3.out; clear ho hb)
    | (go_at_call_of 52 (Value.int .i64 2); refine (N2.out _ (by exact B3.out)).mono ?_; rintro e w4 ⟨a2, cp2, rfl, ho, hb⟩; have O12 := hide (owns_on O1.out hb); have O2 := hide ho; have B4 := hide (B3.out.trans (hb.mono B3.out.size)); have K2 := DF.out w4 B4.out; clear ho hb)
    | (go_at_call_of 52 (Value.int .i64 3); refine (N3.out _ (by exact B4.out)).mono ?_; rintro e w5 ⟨a3, cp3, rfl, ho, hb⟩; have O13 := hide (owns_on O12.out hb); have O23 := hide (owns_on O2.out hb); have O3 := hide ho; have B5 := hide (B4.out.trans (hb.mono B4.out.size)); have K3 := DF.out w5 B5.out; clear ho hb))
  go_wp2_with fail
  refine bodyPost_ret (v := .tuple #[.slice a1 n1 cp1, .slice a2 n2 cp2, .slice a3 n3 cp3]) (by simp [results, Try.results18, go_sem, *]) rfl ?_
  have f0 := (BF.out W2 (Below.refl _ _)).size
  have f3 := (BF.out w3 B3.out).size
  have f4 := (BF.out w4 B4.out).size
  exact ⟨a1, cp1, a2, cp2, a3, cp3, rfl, owns_low O13.out f0, owns_low O23.out f3, owns_low O3.out f4, BF.out _ B5.out⟩
end Hu
end Go.Proofs.Ytnodkeoikamonab
