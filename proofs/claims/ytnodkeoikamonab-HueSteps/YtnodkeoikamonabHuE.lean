/-
  Hue: Strong, Weak, Sorts
-/
import Derived.Test.YtnodkeoikamonabHuD
namespace Go.Proofs.Ytnodkeoikamonab
open Go.RowKit
set_option linter.unusedVariables false
set_option linter.unusedSimpArgs false
set_option linter.unnecessarySimpa false
set_option maxRecDepth 20000
namespace Hu
open Gr
/-- What is handed in, and what bounds it. -/
structure Hy (w : World) (c : Vc) (a : Av) (gl : List Int) (ba : Option Addr) (bs : List Int) : Prop where
  s : Sob w a.oa c.os
  b : Bd c.os
  n : Ncp w a.oa c.os
  nl : nsl c.os c.os.length ≤ 17592186044416
  cb : a.oa = none → a.cb = 0
  no : c.os.length ≤ 2199023255552
  ng : a.ng = gl.length
  g : SeesN w a.ga gl
  l : SeesN w ba bs
  gl : gl.length ≤ 17592186044416
  bl : bs.length ≤ 17592186044416
theorem Hy.below {w w' : World} {c : Vc} {a : Av} {gl : List Int} {ba : Option Addr} {bs : List Int} (h : Hy w c a gl ba bs) (hb : Below w.heap.size w w') : Hy w' c a gl ba bs :=
  ⟨h.s.below hb, h.b, h.n.below hb, h.nl, h.cb, h.no, h.ng, h.g.below hb, h.l.below hb, h.gl, h.bl⟩
theorem Hy.coloured {w : World} {c : Vc} {a : Av} {gl : List Int} {ba : Option Addr} {bs : List Int} {bc : Nat} (h : Hy w c a gl ba bs) : Calls Try.prog 45 #[vl c a, .slice ba bs.length bc] w fun e w' => Kt w w' e c.os (gl ++ bs) a.oa a.cb := coloured_ok h.s h.b h.ng h.g h.l h.gl h.bl
theorem stp_take {os : List Ob} {ws : List Int} {k : Nat} {o : Ob} (ho : os[k]? = some o) (h : ∀ x ∈ o.sl, wh os ws x = 0) : stp os ws k = false := by
  cases hb : stp os ws k with
  | false => rfl
  | true =>
    obtain ⟨_, x, h1, h2⟩ := stp_iff.1 hb
    rw [sls_at ho] at h1
    exact absurd (h x h1) h2
theorem stp_here {os : List Ob} {ws : List Int} {k : Nat} {o : Ob} {u : Int} (ho : os[k]? = some o) (h3 : col os ws k = 3) (hu : u ∈ o.sl) (h0 : wh os ws u ≠ 0) : stp os ws k = true := stp_iff.2 ⟨h3, u, by rw [sls_at ho]; exact hu, h0⟩

set_option maxHeartbeats 4000000 in
theorem strong_ok {c : Vc} {a : Av} {w : World} {gl bs : List Int} {ba : Option Addr} {bc : Nat} (hy : Hy w c a gl ba bs) : Calls Try.prog 15 #[vl c a, .slice ba bs.length bc] w fun e w' => e = .returned (.tuple #[.int .i64 (fs (stp c.os (gl ++ bs)) c.os.length : Int), .int .i64 (er (fs (stp c.os (gl ++ bs)) c.os.length))]) ∧ Below w.heap.size w w' := by
  obtain ⟨W0, hW0, B0, R0⟩ := vbox w c a
  have V0 := hide (vcells R0)
  have HB0 := hide B0
  have HY0 := hide (hy.below B0)
  have l0 : w.heap.size < W0.heap.size := R0.lt
  have CO := hide (HY0.out.coloured (bc := bc))
  have HBd := hide hy.b
  have hno := hy.b.no
  clear hy B0 R0
  obtain ⟨ph, co, ro, aa, na, ca, ra, cr, wa, nw, cw, oa, cb, fa, nf, cf, ga, ng, cg, qa, cq, k0, k1, k2, k3⟩ := a
  simp only [vl] at CO ⊢
  simp only at hW0 V0 HY0 CO
  unfold Kt at CO
  obtain ⟨n, hn⟩ : ∃ n, c.os.length = n := ⟨_, rfl⟩
  obtain ⟨nr, hnre⟩ : ∃ nr, c.rs.length = nr := ⟨_, rfl⟩
  obtain ⟨nqz, hnqe⟩ : ∃ nqz, c.qu.length = nqz := ⟨_, rfl⟩
  obtain ⟨nbs, hnbs⟩ : ∃ nbs, bs.length = nbs := ⟨_, rfl⟩
  obtain ⟨ws, hws⟩ : ∃ ws, gl ++ bs = ws := ⟨_, rfl⟩
  obtain ⟨os, hos⟩ : ∃ os, c.os = os := ⟨_, rfl⟩
  have HS0 := hide HY0.out.s
  have HN0 := hide HY0.out.n
  have HNL := hide HY0.out.nl
  have HCB := hide HY0.out.cb
  have HNO := hide HY0.out.no
  rw [hos] at HS0 HN0 HNL HNO HBd hn
  simp only at HS0 HN0 HCB
  simp only [hos, hws] at CO ⊢
  simp only [hn, hos, hnre, hnqe, hnbs] at hW0 V0 CO hno ⊢
  have Hn := hide hn
  obtain ⟨c0, c1, c2, c3, c4, c5, c6, c7, c8, c9, c10, c11, c12, c13⟩ := V0.out
  clear hn hnre hnqe hos hnbs hws HY0 V0
  go_enter Try.func15, Try.ntmps15
  go_upto_region 2 with (go_at_call 45; refine CO.out.mono ?_; rintro e w1 ⟨g, rfl, hg, hrow, hb⟩; have HG1 := hide hrow; have HB1 := hide hb; simp only [kv]; clear hrow hb)
  obtain ⟨W2, hW2, B2, R2⟩ := kbox w1 (.slice oa n cb) (.slice (some ⟨g, 0, none⟩) n n)
  have s2 : w1.heap.size < W2.heap.size := R2.lt
  have HB2 := hide B2
  have DF := hide (fun (wx : World) (hb : Below W2.heap.size W2 wx) => show wx.cell? ⟨w1.heap.size, 0, none⟩ = some (.slice oa n cb) ∧ wx.cell? ⟨w1.heap.size, 1, none⟩ = some (.slice (some ⟨g, 0, none⟩) n n) from ⟨(row_on R2 hb).cell (i := 0) (by decide), (row_on R2 hb).cell (i := 1) (by decide)⟩)
  have HG2 := hide (row_on HG1.out B2)
  have BW2 := hide (show Below W0.heap.size W0 W2 from HB1.out.trans (B2.mono HB1.out.size))
  have HS2 := hide (HS0.out.below BW2.out)
  have HN2 := hide (HN0.out.below BW2.out)
  have BF := hide (fun (wx : World) (hb : Below W2.heap.size W2 wx) => show Below w.heap.size w wx from HB0.out.trans ((BW2.out.trans (hb.mono BW2.out.size)).mono HB0.out.size))
  have hg2 : g < W2.heap.size := HG2.out.lt
  have DW := DF.out W2 (Below.refl _ _)
  obtain ⟨d0, d1⟩ := DW
  simp only [hW2]
  clear hW2 B2 R2 HG1 c0 c1 c2 c3 c4 c5 c6 c7 c8 c9 c10 c11 c12 c13 hW0 CO
  have WO := hide (fun (wx : World) (hb : Below W2.heap.size W2 wx) (u : Int) (hu : 0 ≤ u ∧ u < 18446744073709551616) => whiteOf_ok (cb := cb) (ws := ws) (HS2.out.below hb) HBd.out (by rw [Hn.out]; exact row_on HG2.out hb) hu)
  simp only [kv, Hn.out] at WO
  go_wp2_with fail
  clear d0 d1
  go_loopw [17] (fun i wr => ∃ (k : Nat), k ≤ n ∧ i = .int .i64 k ∧ Hid (∀ j, j < k → stp os ws j = false) ∧ Hid (Below W2.heap.size W2 wr)) (fun i _ => n - (intOf i).toNat)
  case atStart => exact ⟨0, Nat.zero_le _, rfl, (fun j hj => by omega : ∀ j, j < 0 → stp os ws j = false), Below.refl _ _⟩
  case round =>
    obtain ⟨k, hk, rfl, HP, HB⟩ := hrel
    by_cases hlt : k < n
    · have hkn : (k : Int) < (n : Int) := by omega
      have gx := (HB.out.cell (p := ⟨g, k, none⟩) hg2).trans (HG2.out.cell hlt)
      obtain ⟨d0, d1⟩ := DF.out wr HB.out
      obtain ⟨o, ho⟩ : ∃ o, os[k]? = some o := ⟨os[k]'(by rw [Hn.out]; exact hlt), by simp [Hn.out, hlt]⟩
      obtain ⟨bo, off, ai, ci, hoa, hbl2, hoc, hse⟩ := HS2.out.below HB.out k o ho
      subst hoa
      have OC := hide (Ob.cells9 hoc)
      obtain ⟨o0, o1, o2, o3, o4, o5, o6, o7, o8⟩ := OC.out
      have Ho := hide ho
      have HSE := hide hse
      have HWd := hide (HBd.out.sl o (List.mem_of_getElem? ho))
      have hml := HBd.out.ns o (List.mem_of_getElem? ho)
      obtain ⟨us, li, fi, ta, ag, ge, lk, nx, sl⟩ := o
      simp only at o0 o1 o2 o3 o4 o5 o6 o7 o8 HSE HWd hml
      obtain ⟨m, hm⟩ : ∃ m, sl.length = m := ⟨_, rfl⟩
      rw [hm] at o8 hml
      have Hm := hide hm
      obtain ⟨W4, hW4, B4, R4⟩ := obox wr us li fi ta ag ge lk nx ai m ci
      have HB4 := hide (show Below W2.heap.size W2 W4 from HB.out.trans (B4.mono HB.out.size))
      have p8 : W4.cell? ⟨wr.heap.size, 8, none⟩ = some (.slice ai m ci) := R4.cell (i := 8) (by decide)
      have gx4 := (HB4.out.cell (p := ⟨g, k, none⟩) hg2).trans (HG2.out.cell hlt)
      obtain ⟨d04, d14⟩ := DF.out W4 HB4.out
      have HSE4 := hide (HSE.out.below B4)
      obtain ⟨cq, hcq⟩ : ∃ cq, col os ws k = cq := ⟨_, rfl⟩
      rw [hcq] at gx gx4
      have Hcq := hide hcq
      clear hoc hse ho OC hm hcq R4 B4
      have NXT := hide (show stp os ws k = false → ∀ j, j < k + 1 → stp os ws j = false from fun h j hj => by
        by_cases e : j = k
        · subst e; exact h
        · exact HP.out j (by omega))
      by_cases h3 : cq = 3
      · have h3b : (cq != 3) = false := by simp [h3]
        have H3 := hide (show col os ws k = 3 by rw [Hcq.out, h3])
        clear h3
        obtain ⟨wo, rfl⟩ : ∃ wo, wo = wr := ⟨_, rfl⟩
        go_wp2_with fail
        clear o0 o1 o2 o3 o4 o5 o6 o7 o8 p8 gx gx4 d0 d1 d04 d14 hW4
        go_loopw [31] (fun i wr => ∃ (j : Nat), j ≤ m ∧ i = .int .i64 j ∧ Hid (∀ x ∈ sl.take j, wh os ws x = 0) ∧ Hid (Below W4.heap.size W4 wr)) (fun i _ => m - (intOf i).toNat)
        case atStart => exact ⟨0, Nat.zero_le _, rfl, (fun x hx => by simp at hx : ∀ x ∈ sl.take 0, wh os ws x = 0), Below.refl _ _⟩
        case round =>
          obtain ⟨j, hj, rfl, HQ, HBj⟩ := hrel
          have HB5 := hide (show Below W2.heap.size W2 wr from HB4.out.trans (HBj.out.mono HB4.out.size))
          by_cases hlt2 : j < m
          · have hjn : (j : Int) < (m : Int) := by omega
            obtain ⟨u, hu⟩ : ∃ u, sl[j]? = some u := ⟨sl[j]'(by rw [Hm.out]; exact hlt2), by simp [Hm.out, hlt2]⟩
            obtain ⟨b2, off2, hai, hbl3, hcc2⟩ := HSE4.out.below HBj.out j u hu
            subst hai
            have hum := List.mem_of_getElem? hu
            have WX := hide (WO.out wr HB5.out u (HWd.out u hum))
            obtain ⟨d0, d1⟩ := DF.out wr HB5.out
            have YES := hide (fun (h0 : wh os ws u ≠ 0) => fs_at (n := n) hlt (stp_here Ho.out H3.out hum h0) HP.out)
            have NOT := hide (show wh os ws u = 0 → ∀ x ∈ sl.take (j + 1), wh os ws x = 0 from fun h0 x hx => by
              rw [List.take_add_one, hu] at hx
              rcases List.mem_append.1 hx with hx | hx
              · exact HQ.out x hx
              · simp at hx; subst hx; exact h0)
            obtain ⟨q, hq⟩ : ∃ q, wh os ws u = q := ⟨_, rfl⟩
            rw [hq] at WX YES NOT
            clear hu hum hq
            by_cases hq0 : q = 0
            · subst hq0
              have NN := hide (NOT.out rfl)
              clear NOT YES
              go_wp2_with (go_at_call 46; refine WX.out.mono ?_; rintro e w6 ⟨rfl, hb⟩; have HB6 := hide hb; clear hb)
              go_roundw
              case rel => exact ⟨j + 1, by omega, by go_num, NN.out, HBj.out.trans (HB6.out.mono HBj.out.size)⟩
              case measure => simp [intOf]; omega
            · have YY := hide (YES.out hq0)
              have q0 : ((q : Int) != 0) = true := by simp [hq0]
              have q1 : ¬ (q : Int) = 0 := by omega
              clear NOT YES
              go_wp2_with (go_at_call 46; refine WX.out.mono ?_; rintro e w6 ⟨rfl, hb⟩; have HB6 := hide hb; clear hb)
              refine bodyPost_ret (v := .tuple #[.int .i64 ((k : Int) + 1), .int .i64 150]) (by simp [results, Try.results15, go_sem, *]) rfl ?_
              rw [YY.out]
              exact ⟨by rw [er1 (by omega)]; simp, BF.out _ (HB5.out.trans (HB6.out.mono HB5.out.size))⟩
          · have hjn : ¬ (j : Int) < (m : Int) := by omega
            have e0 : sl.take j = sl := List.take_of_length_le (by rw [Hm.out]; omega)
            rw [e0] at HQ
            have NN := hide (NXT.out (stp_take Ho.out HQ.out))
            go_wp2_with fail
            go_roundw
            case rel => exact ⟨k + 1, by omega, by go_num, NN.out, HB5.out⟩
            case measure => simp [intOf]; omega
      · have h3b : (cq != 3) = true := by simp [h3]
        have NN := hide (NXT.out (stp_not (by rw [Hcq.out]; exact h3)))
        clear h3
        go_wp2_with fail
        go_roundw
        case rel => exact ⟨k + 1, by omega, by go_num, NN.out, HB4.out⟩
        case measure => simp [intOf]; omega
    · have hkn : ¬ (k : Int) < (n : Int) := by omega
      obtain rfl : k = n := by omega
      have FX := hide (fs_none HP.out)
      go_wp2_with fail
      refine bodyPost_ret (v := .tuple #[.int .i64 0, .int .i64 0]) (by simp [results, Try.results15, go_sem, *]) rfl ?_
      rw [FX.out]
      exact ⟨by rw [er0 rfl]; rfl, BF.out _ HB.out⟩
end Hu
end Go.Proofs.Ytnodkeoikamonab
