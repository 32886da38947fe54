/-
  Graph: GraphLeads' walk
-/
import Derived.Test.YtakgidhblkjjbaaGrL
import Derived.Test.YtakgidhblkjjbaaGrK
import Derived.Test.YtakgidhblkjjbaaGrLn
import Derived.Deep.Cut
namespace Go.Proofs.Ytakgidhblkjjbaa
open Go.RowKit
set_option linter.unusedVariables false
set_option linter.unusedSimpArgs false
set_option linter.unnecessarySimpa false
set_option maxRecDepth 20000
namespace Gr
theorem cur_ok {c : Vc} (hB : Bv c) (l : List Int) : ∀ k, (cur c.os (rts c) l k).length ≤ 35184372088832 ∧ Wd (cur c.os (rts c) l k)
  | 0 => ⟨by have := rts_len hB; simp only [cur]; omega, rts_wd hB⟩
  | k + 1 => by
    simp only [cur, slo]
    split
    · rename_i o ho
      exact ⟨hB.bd.ns o (List.mem_of_getElem? ho), hB.bd.sl o (List.mem_of_getElem? ho)⟩
    · exact ⟨by simp, fun u hu => by simp at hu⟩

set_option maxHeartbeats 16000000 in
theorem leads_walk {c : Vc} {a : Av} {w : World} (hS : Shows w c a) (hB : Bv c) (h20 : c.os.length ≤ 1048576) (tg : Int) :
    Calls Try.prog 7 #[vl c a, .int .i64 tg] w fun e w' => e = .returned (.bool true) ∧ Below w.heap.size w w' := by
  obtain ⟨W0, hW0, B0, R0⟩ := vbox w c a
  have VF := hide (fun (wx : World) (hb : Below W0.heap.size W0 wx) => vcells (row_on R0 hb))
  have HB0 := hide B0
  have HS0 := hide (hS.below B0)
  have l0 : w.heap.size < W0.heap.size := R0.lt
  have RO := hide (fun (w1 : World) (h1 : Below W0.heap.size W0 w1) => roots_ok (HS0.out.below h1) hB)
  have LI := hide (fun (w1 : World) (h1 : Below W0.heap.size W0 w1) => live_ok (HS0.out.below h1) hB)
  have DE := hide (fun (w1 : World) (h1 : Below W0.heap.size W0 w1) => dead_ok (HS0.out.below h1) hB)
  have HE := hide (fun (w1 : World) (h1 : Below W0.heap.size W0 w1) => held_ok (HS0.out.below h1) hB)
  have WA := hide (fun (w1 : World) (h1 : Below W0.heap.size W0 w1) => way_ok (HS0.out.below h1) hB tg)
  have GO := hide (fun (w1 : World) (h1 : Below W0.heap.size W0 w1) (u : Int) (h2 : 0 ≤ u ∧ u < 18446744073709551616) => goodl_ok (HS0.out.below h1).ob hB.bd h2.1 h2.2)
  have HBv := hide hB
  have hrl := rts_len hB
  have hdl : (dd c).length ≤ c.os.length := ddk_len c _
  clear hS hB B0 R0
  obtain ⟨ph, co, ro, aa, na, ca, ra, cr, wa, nw, cw, oa, cb, fa, nf, cf, ga, ng, cg, qa, cq, k0, k1, k2, k3⟩ := a
  simp only [vl] at RO LI DE HE WA GO ⊢
  simp only at hW0 VF RO LI DE HE WA GO
  obtain ⟨n, hn⟩ : ∃ n, c.os.length = n := ⟨_, rfl⟩
  obtain ⟨nr, hnre⟩ : ∃ nr, c.rs.length = nr := ⟨_, rfl⟩
  obtain ⟨nqz, hnqe⟩ : ∃ nq, c.qu.length = nq := ⟨_, rfl⟩
  obtain ⟨m, hm⟩ : ∃ m, (rts c).length = m := ⟨_, rfl⟩
  obtain ⟨nd, hnd⟩ : ∃ nd, (dd c).length = nd := ⟨_, rfl⟩
  rw [hm] at hrl
  rw [hnd] at hdl
  simp only [hn, hnre, hnqe] at hW0 VF RO LI DE HE WA GO h20 hdl ⊢
  have Hn := hide hn
  have Hm := hide hm
  have Hnd := hide hnd
  clear hn hnre hnqe hm hnd
  have AL := hide (fun w1 => alive_ok w1)
  go_enter Try.func7, Try.ntmps7
  go_upto_region 3 with (go_at_call 9; refine (AL.out _).mono ?_; rintro e w1 ⟨rfl, hb⟩; have HB1 := hide hb; clear hb)
  clear hW0 AL
  have D1 : Below W0.heap.size W0 w1.drew := ⟨HB1.out.os, HB1.out.tape, HB1.out.output, HB1.out.size, HB1.out.block⟩
  have K0 := VF.out w1.drew D1
  go_region_held (fun w' => w'.cell? ⟨w.heap.size, 0, none⟩ = some (.int .i64 ph) ∧ w'.cell? ⟨w.heap.size, 1, none⟩ = some (.int .i64 co) ∧ w'.cell? ⟨w.heap.size, 2, none⟩ = some (.int .u64 ro) ∧ w'.cell? ⟨w.heap.size, 3, none⟩ = some (.slice aa na ca) ∧ w'.cell? ⟨w.heap.size, 4, none⟩ = some (.slice ra nr cr) ∧ w'.cell? ⟨w.heap.size, 5, none⟩ = some (.slice wa nw cw) ∧ w'.cell? ⟨w.heap.size, 6, none⟩ = some (.slice oa n cb) ∧ w'.cell? ⟨w.heap.size, 7, none⟩ = some (.slice fa nf cf) ∧ w'.cell? ⟨w.heap.size, 8, none⟩ = some (.slice ga ng cg) ∧ w'.cell? ⟨w.heap.size, 9, none⟩ = some (.slice qa nqz cq) ∧ w'.cell? ⟨w.heap.size, 10, none⟩ = some (.int .u64 k0) ∧ w'.cell? ⟨w.heap.size, 11, none⟩ = some (.int .u64 k1) ∧ w'.cell? ⟨w.heap.size, 12, none⟩ = some (.int .u64 k2) ∧ w'.cell? ⟨w.heap.size, 13, none⟩ = some (.int .u64 k3)) (first | exact K0 | exact K1 | exact K2 | exact K3 | exact K4) (first
    | (go_at_call 16; refine (LI.out _ (by exact D1)).mono ?_; rintro e w2 ⟨g2, rfl, hg, hr, hb⟩; have HR2 := hide hr; have B2 := hide (D1.trans (hb.mono D1.size)); have K1 := VF.out w2 B2.out; clear hr hb hg)
    | (go_at_call 19; refine (DE.out _ (by exact B2.out)).mono ?_; rintro e w3 ⟨ao3, cp3, rfl, ho, hb⟩; rw [Hnd.out] at ho; (try rw [Hnd.out]); have HO3 := hide ho; have HR23 := hide (row_on HR2.out hb); have B3 := hide (B2.out.trans (hb.mono B2.out.size)); have K2 := VF.out w3 B3.out; clear ho hb)
    | (go_at_call 24; refine (WA.out _ (by exact B3.out)).mono ?_; rintro e w4 ⟨wy, hwy, ao4, cp4, rfl, ho, hb⟩; have HWY := hide (wf_of hwy); have HO4 := hide ho; have HR24 := hide (row_on HR23.out hb); have HO34 := hide (owns_on HO3.out hb); have B4 := hide (B3.out.trans (hb.mono B3.out.size)); have K3 := VF.out w4 B4.out; clear ho hb hwy)
    | (go_at_call 21; refine (HE.out _ (by exact B4.out)).mono ?_; rintro e w5 ⟨g5, rfl, hg, hr, hb⟩; have HR5 := hide hr; have HR25 := hide (row_on HR24.out hb); have HO35 := hide (owns_on HO34.out hb); have HO45 := hide (owns_on HO4.out hb); have B5 := hide (B4.out.trans (hb.mono B4.out.size)); have K4 := VF.out w5 B5.out; clear hr hb hg))
  have c6 := K4.2.2.2.2.2.2.1
  clear K0 K1 K2 K3 K4 D1 HR2 HR23 HR24 HO3 HO34 HO4
  obtain ⟨wl, hwl⟩ : ∃ wl, wy.length = wl := ⟨_, rfl⟩
  have Hwl := hide hwl
  rw [hwl] at HO45 ⊢
  have hwln : wl ≤ n := by rw [← hwl, ← Hn.out]; exact HWY.out.len
  clear hwl
  go_upto_region 4 with (fail)
  go_cut [69] from 29 to 68 (fun s wx => s = .bool false ∧ wx = w5)
  case first => as_aux_lemma =>
    have lw : ¬ ((n : Int) < (wl : Int)) := by omega
    by_cases h0 : 0 < wl
    · obtain ⟨q, hq1, hq2, hq3⟩ := HWY.out.some.1 (by rw [Hwl.out]; exact h0)
      rw [Hn.out] at hq2
      subst hq1
      have d0 := HR25.out.cell hq2
      rw [hq3] at d0
      have i1 : (0 : Int) < (wl : Int) := by omega
      have i2 : (q : Int) < (n : Int) := by omega
      have i3 : 1 ≤ (q : Int) + 1 := by omega
      have i4 : (q : Int) + 1 ≤ (n : Int) := by omega
      clear hq3
      go_wp2_with fail
      go_meet
      case rel => exact ⟨rfl, rfl⟩
    · obtain rfl : wl = 0 := by omega
      by_cases t1 : 1 ≤ tg
      · by_cases t2 : tg ≤ (n : Int)
        · obtain ⟨q, rfl⟩ : ∃ q : Nat, tg = (q : Int) + 1 := ⟨tg.toNat - 1, by omega⟩
          have hq2 : q < n := by omega
          have d0 := HR25.out.cell hq2
          have NB : rb c.os (rts c) q = false := by
            cases hb : rb c.os (rts c) q with
            | false => rfl
            | true =>
              have := HWY.out.some.2 ⟨q, rfl, by rw [Hn.out]; exact hq2, hb⟩
              rw [Hwl.out] at this
              omega
          rw [NB] at d0
          have i2 : (q : Int) < (n : Int) := by omega
          clear NB
          go_wp2_with fail
          go_meet
          case rel => exact ⟨rfl, rfl⟩
        · go_wp2_with fail
          go_meet
          case rel => exact ⟨rfl, rfl⟩
      · go_wp2_with fail
        go_meet
        case rel => exact ⟨rfl, rfl⟩
  case rest =>
    obtain ⟨rfl, rfl⟩ := hcut
    clear c6
    obtain ⟨c0, c1, c2, c3, c4, c5, c6, c7, c8, c9, c10, c11, c12, c13⟩ := VF.out wc B5.out
    have RO5 := hide (RO.out wc B5.out)
    go_upto_region 8 with (go_at_call 14; refine RO5.out.mono ?_; rintro e w6 ⟨ao6, cp6, rfl, ho, hb⟩; rw [Hm.out] at ho; (try rw [Hm.out]); have HO6 := hide ho; have HR26 := hide (row_on HR25.out hb); have HR56 := hide (row_on HR5.out hb); have HO36 := hide (owns_on HO35.out hb); have HO46 := hide (owns_on HO45.out hb); have B6 := hide (B5.out.trans (hb.mono B5.out.size)); clear ho hb)
    clear c0 c1 c2 c3 c4 c5 c6 c7 c8 c9 c10 c11 c12 c13 RO RO5
    obtain ⟨z, hz⟩ : ∃ z, w6.heap.size = z := ⟨_, rfl⟩
    have Hz := hide hz
    have hW0z : W0.heap.size ≤ z := by rw [← hz]; exact B6.out.size
    have CW := hide (fun k => cur_ok HBv.out wy k)
    clear hz
    go_loopw [9, 10] (fun fv i wr => ∃ (k fc' : Nat) (fa' : Option Addr), k ≤ wl ∧ i = .int .i64 k ∧ fv = .slice fa' (cur c.os (rts c) wy k).length fc' ∧ Hid (SeesU wr fa' (cur c.os (rts c) wy k)) ∧ Hid (Below z w6 wr)) (fun _ i _ => wl - (intOf i).toNat)
    case atStart => exact ⟨0, cp6, ao6, Nat.zero_le _, rfl, (by simp only [cur]; rw [Hm.out]), own_seesU HO6.out, by show Below z w6 w6; exact Below.refl _ _⟩
    case round =>
      obtain ⟨k, fc', fa', hk, rfl, rfl, HSF, HB⟩ := hrel
      have BW := hide (show Below W0.heap.size W0 wr from B6.out.trans (HB.out.mono hW0z))
      have hzw : z ≤ wr.heap.size := by have := HB.out.size; rw [Hz.out] at this; exact this
      by_cases hlt : k < wl
      · as_aux_lemma =>
          have hkn : (k : Int) < (wl : Int) := by omega
          obtain ⟨x, hx⟩ : ∃ x, wy[k]? = some x := ⟨wy[k]'(by rw [Hwl.out]; exact hlt), by simp [Hwl.out, hlt]⟩
          obtain ⟨q, rfl, hq, hrb⟩ := HWY.out.rch x (List.mem_of_getElem? hx)
          rw [Hn.out] at hq
          have hq2 : (q : Int) < (n : Int) := by omega
          have LED := hide (HWY.out.le.led k _ hx)
          obtain ⟨gw, hao4, _, hgwl, hcw0, _⟩ := owns_cell HO46.out (ncs_get hx)
          have CWY := hide (fun (wx : World) (hb : Below z w6 wx) => (hb.cell (p := ⟨gw, k, none⟩) (by rw [← Hz.out]; exact hgwl)).trans hcw0)
          subst hao4
          obtain ⟨C, hC⟩ : ∃ C, cur c.os (rts c) wy k = C := ⟨_, rfl⟩
          rw [hC] at HSF LED
          rw [hC]
          have CK := CW.out k
          rw [hC] at CK
          obtain ⟨M, hM⟩ : ∃ M, C.length = M := ⟨_, rfl⟩
          have hMb : M ≤ 35184372088832 := by rw [← hM]; exact CK.1
          have HCK := hide CK.2
          have HM := hide hM
          have HX := hide hx
          rw [hM]
          have HRB := hide hrb
          clear hM hC CK hcw0 hx hrb
          obtain ⟨wo, rfl⟩ : ∃ wo, wo = wr := ⟨_, rfl⟩
          go_wp2_with fail
          go_loopw [11, 12] (fun fv i wr => ∃ (j : Nat) (bv : Bool), j ≤ M ∧ i = .int .i64 j ∧ fv = .bool bv ∧ Hid (bv = true ↔ ∃ u ∈ C.take j, gd c.os u = q + 1) ∧ Hid (Below z w6 wr) ∧ Hid (Below wo.heap.size wo wr)) (fun _ i _ => M - (intOf i).toNat)
          case atStart => exact ⟨0, false, Nat.zero_le _, rfl, rfl, (by simp : false = true ↔ _), HB.out, by show Below _ wo wo; exact Below.refl _ _⟩
          case round =>
            obtain ⟨j, bv, hj, rfl, rfl, HF, HB2, HBo⟩ := hrel
            by_cases hltj : j < M
            · have hjn : (j : Int) < (M : Int) := by omega
              obtain ⟨u, hu⟩ : ∃ u, C[j]? = some u := ⟨C[j]'(by rw [HM.out]; exact hltj), by simp [HM.out, hltj]⟩
              have STEP := hide (show (∃ y ∈ C.take (j + 1), gd c.os y = q + 1) ↔ (∃ y ∈ C.take j, gd c.os y = q + 1) ∨ gd c.os u = q + 1 by
                rw [List.take_add_one, hu]
                simp [or_and_right, exists_or])
              go_upto_region 14 with (fail)
              cases bv
              · have hwu := HCK.out u (List.mem_of_getElem? hu)
                obtain ⟨b1, off1, hfa, hbl1, hcu0⟩ := HSF.out j u hu
                subst hfa
                have BX : Below W0.heap.size W0 wr.drew := by
                  have h := B6.out.trans (HB2.out.mono hW0z)
                  exact ⟨h.os, h.tape, h.output, h.size, h.block⟩
                have BY : Below z w6 wr.drew := ⟨HB2.out.os, HB2.out.tape, HB2.out.output, HB2.out.size, HB2.out.block⟩
                have BO : Below wo.heap.size wo wr.drew := ⟨HBo.out.os, HBo.out.tape, HBo.out.output, HBo.out.size, HBo.out.block⟩
                have CU := hide (fun (wx : World) (hb : Below wo.heap.size wo wx) => (hb.cell (p := ⟨b1, off1 + j, none⟩) hbl1).trans hcu0)
                have K0 := VF.out wr.drew BX
                have x0 := CWY.out wr.drew BY
                have y0 := CU.out wr.drew BO
                have GX := hide (GO.out wr.drew BX u hwu)
                obtain ⟨gv, hgv⟩ : ∃ gv, (gd c.os u : Int) - 1 = gv := ⟨_, rfl⟩
                rw [hgv] at GX
                have HGV := hide hgv
                have l3 : IntKind.i64.wrap (q : Int) = (q : Int) := by rw [IntKind.wrap_i64]; omega
                have hzr : z ≤ wr.heap.size := by have := HB2.out.size; rw [Hz.out] at this; exact this
                have hwor : wo.heap.size ≤ wr.heap.size := HBo.out.size
                have HBX := hide BX
                have HBY := hide BY
                have HBO := hide BO
                clear hwu hcu0 hgv BX BY BO hu
                go_region_held (fun w' => w'.cell? ⟨w.heap.size, 0, none⟩ = some (.int .i64 ph) ∧ w'.cell? ⟨w.heap.size, 1, none⟩ = some (.int .i64 co) ∧ w'.cell? ⟨w.heap.size, 2, none⟩ = some (.int .u64 ro) ∧ w'.cell? ⟨w.heap.size, 3, none⟩ = some (.slice aa na ca) ∧ w'.cell? ⟨w.heap.size, 4, none⟩ = some (.slice ra nr cr) ∧ w'.cell? ⟨w.heap.size, 5, none⟩ = some (.slice wa nw cw) ∧ w'.cell? ⟨w.heap.size, 6, none⟩ = some (.slice oa n cb) ∧ w'.cell? ⟨w.heap.size, 7, none⟩ = some (.slice fa nf cf) ∧ w'.cell? ⟨w.heap.size, 8, none⟩ = some (.slice ga ng cg) ∧ w'.cell? ⟨w.heap.size, 9, none⟩ = some (.slice qa nqz cq) ∧ w'.cell? ⟨w.heap.size, 10, none⟩ = some (.int .u64 k0) ∧ w'.cell? ⟨w.heap.size, 11, none⟩ = some (.int .u64 k1) ∧ w'.cell? ⟨w.heap.size, 12, none⟩ = some (.int .u64 k2) ∧ w'.cell? ⟨w.heap.size, 13, none⟩ = some (.int .u64 k3) ∧ w'.cell? ⟨gw, k, none⟩ = some (.int .i64 ((q : Int) + 1)) ∧ w'.cell? ⟨b1, off1 + j, none⟩ = some (.int .u64 u)) (first | exact ⟨K0.1, K0.2.1, K0.2.2.1, K0.2.2.2.1, K0.2.2.2.2.1, K0.2.2.2.2.2.1, K0.2.2.2.2.2.2.1, K0.2.2.2.2.2.2.2.1, K0.2.2.2.2.2.2.2.2.1, K0.2.2.2.2.2.2.2.2.2.1, K0.2.2.2.2.2.2.2.2.2.2.1, K0.2.2.2.2.2.2.2.2.2.2.2.1, K0.2.2.2.2.2.2.2.2.2.2.2.2.1, K0.2.2.2.2.2.2.2.2.2.2.2.2.2, x0, y0⟩ | exact ⟨K1.1, K1.2.1, K1.2.2.1, K1.2.2.2.1, K1.2.2.2.2.1, K1.2.2.2.2.2.1, K1.2.2.2.2.2.2.1, K1.2.2.2.2.2.2.2.1, K1.2.2.2.2.2.2.2.2.1, K1.2.2.2.2.2.2.2.2.2.1, K1.2.2.2.2.2.2.2.2.2.2.1, K1.2.2.2.2.2.2.2.2.2.2.2.1, K1.2.2.2.2.2.2.2.2.2.2.2.2.1, K1.2.2.2.2.2.2.2.2.2.2.2.2.2, x1, y1⟩) ((go_at_call 27; refine GX.out.mono ?_; rintro e w8 ⟨rfl, hb⟩; have B8 := hide hb; have K1 := VF.out w8 (HBX.out.trans (hb.mono HBX.out.size)); have x1 := CWY.out w8 (HBY.out.trans (hb.mono hzr)); have y1 := CU.out w8 (HBO.out.trans (hb.mono hwor)); clear hb))
                have NX := hide (show ((gv == (q : Int)) = true ↔ ∃ y ∈ C.take (j + 1), gd c.os y = q + 1) by
                  rw [STEP.out]
                  have h1 : ¬ ∃ y ∈ C.take j, gd c.os y = q + 1 := fun h => by have := HF.out.2 h; cases this
                  have h2 := HGV.out
                  constructor
                  · intro h; right; simp at h; omega
                  · rintro (h | h)
                    · exact absurd h h1
                    · simp; omega)
                clear K0 K1 x0 x1 y0 y1 l3
                go_wp2_with fail
                go_roundw
                case rel => exact ⟨j + 1, _, by omega, by go_num, rfl, NX.out, HBY.out.trans (B8.out.mono hzr), HBO.out.trans (B8.out.mono hwor)⟩
                case measure => simp [intOf]; omega
              · have NX := hide (show (true = true ↔ ∃ y ∈ C.take (j + 1), gd c.os y = q + 1) by
                  rw [STEP.out]
                  exact ⟨fun _ => .inl (HF.out.1 rfl), fun _ => rfl⟩)
                clear hu
                go_quiet (fail)
                go_wp2_with fail
                go_roundw
                case rel => exact ⟨j + 1, true, by omega, by go_num, rfl, NX.out, below_drewN HB2.out _, below_drewN HBo.out _⟩
                case measure => simp [intOf]; omega
            · have hjn : ¬ (j : Int) < (M : Int) := by omega
              have FT : bv = true := HF.out.2 (by
                obtain ⟨h, h1, h2, _⟩ := LED.out
                rw [List.take_of_length_le (by rw [HM.out]; omega)]
                exact ⟨h, h1, by rw [h2]; omega⟩)
              subst FT
              have x0 := CWY.out wr HB2.out
              have BX := hide (show Below W0.heap.size W0 wr from B6.out.trans (HB2.out.mono hW0z))
              have lv : wr.cell? ⟨g2, q, none⟩ = some (.bool true) := by
                have := (row_on HR26.out (show Below w6.heap.size w6 wr by rw [Hz.out]; exact HB2.out)).cell hq
                rw [HRB.out] at this
                exact this
              have i3 : ¬ ((q : Int) + 1 < 1) := by omega
              have i4 : ¬ ((n : Int) < (q : Int) + 1) := by omega
              obtain ⟨o, ho⟩ : ∃ o, c.os[q]? = some o := ⟨c.os[q]'(by rw [Hn.out]; exact hq), by simp [Hn.out, hq]⟩
              obtain ⟨b, off, ai, ci, hoa, hbl, hoc, hse⟩ := HS0.out.ob q o ho
              simp only at hoa
              subst hoa
              have O8 := hide (fun (wx : World) (hb : Below W0.heap.size W0 wx) => (hb.cell (p := ⟨b, off + q * 9 + 8, none⟩) hbl).trans (hoc 8 (by decide)))
              simp only [Ob.cell] at O8
              have CE := hide (show cur c.os (rts c) wy (k + 1) = o.sl by
                simp only [cur, HX.out, Option.getD_some, slo]
                rw [show ((q : Int) + 1).toNat - 1 = q by omega, ho])
              have HSE := hide (hse.below BX.out)
              clear hoc hse ho
              go_upto_region 18 with (fail)
              clear lv i3 i4
              obtain ⟨wp, rfl⟩ : ∃ wp, wp = wr := ⟨_, rfl⟩
              go_loopw [13] (fun i wr => ∃ (j m : Nat), j ≤ k ∧ i = .int .i64 j ∧ wr = wp.drewN m) (fun i _ => k - (intOf i).toNat)
              case atStart => exact ⟨0, 0, Nat.zero_le _, rfl, rfl⟩
              case round =>
                obtain ⟨j3, m3, hj3, rfl, rfl⟩ := hrel
                by_cases hl3 : j3 < k
                · have hj3n : (j3 : Int) < (k : Int) := by omega
                  obtain ⟨p, hp⟩ : ∃ p, wy[j3]? = some p := ⟨wy[j3]'(by rw [Hwl.out]; omega), by simp [Hwl.out, show j3 < wl by omega]⟩
                  obtain ⟨gw', hgw', _, _, hcp, _⟩ := owns_cell (owns_on HO46.out (show Below w6.heap.size w6 wp by rw [Hz.out]; exact HB2.out)) (ncs_get hp)
                  cases hgw'
                  have ne : (p == (q : Int) + 1) = false := by
                    have : ¬ p = (q : Int) + 1 := fun e => by
                      subst e
                      have := nd_inj HWY.out.nd hp HX.out
                      omega
                    simp [this]
                  have hj3w : (j3 : Int) < (wl : Int) := by omega
                  clear hp
                  go_upto_region 20 with (fail)
                  go_quiet (fail)
                  go_wp2_with fail
                  go_roundw
                  case rel => exact ⟨j3 + 1, _, by omega, by go_num, rfl⟩
                  case measure => simp [intOf]; omega
                · have hj3n : ¬ (j3 : Int) < (k : Int) := by omega
                  have c6 := (VF.out wp BX.out).2.2.2.2.2.2.1
                  have o8 := O8.out wp BX.out
                  have l3 : IntKind.i64.wrap (q : Int) = (q : Int) := by rw [IntKind.wrap_i64]; omega
                  go_upto_region 22 with (fail)
                  go_quiet (fail)
                  clear c6 o8 l3 x0
                  go_wp2_with fail
                  go_roundw
                  case rel =>
                    refine ⟨k + 1, ci, ai, by omega, by go_num, by rw [CE.out], ?_, below_drewN HB2.out _⟩
                    rw [CE.out]
                    exact HSE.out.below (below_drewN (Below.refl _ _) _)
                  case measure => simp [intOf]; omega
      · have hkn : ¬ (k : Int) < (wl : Int) := by omega
        obtain ⟨wo, rfl⟩ : ∃ wo, wo = wr := ⟨_, rfl⟩
        have BO := hide HB.out
        go_upto_region 25 with (fail)
        clear HSF hkn
        go_loopw [14, 15] (fun av i wr => ∃ (k : Nat), k ≤ n ∧ i = .int .i64 k ∧ av = .int .i64 (ddk c k).length ∧ Hid (Below z w6 wr)) (fun _ i _ => n - (intOf i).toNat)
        case atStart => exact ⟨0, Nat.zero_le _, rfl, rfl, BO.out⟩
        case round =>
          obtain ⟨k2, hk2, rfl, rfl, HB2⟩ := hrel
          have BX := hide (show Below W0.heap.size W0 wr from B6.out.trans (HB2.out.mono hW0z))
          have B6r := hide (show Below w6.heap.size w6 wr by rw [Hz.out]; exact HB2.out)
          by_cases hlt2 : k2 < n
          · have hkn2 : (k2 : Int) < (n : Int) := by omega
            obtain ⟨o, ho⟩ : ∃ o, c.os[k2]? = some o := ⟨c.os[k2]'(by rw [Hn.out]; exact hlt2), by simp [Hn.out, hlt2]⟩
            obtain ⟨b, off, ai, ci, hoa, hbl, hoc, hse⟩ := (HS0.out.below BX.out).ob k2 o ho
            simp only at hoa
            subst hoa
            have DAT := hide (dd_at c (by rw [Hn.out]; exact hlt2 : k2 < c.os.length))
            have DST := hide (ddk_step c k2)
            have DPE := hide (show ddp c k2 = (o.us && !rb c.os (rts c) k2) by simp [ddp, usA, ho])
            have LUS := hide (fun h => rb_used (l := rts c) ho h)
            have HUS := hide (fun h => rb_used (l := hls c) ho h)
            have hge := HBv.out.bd.ge o (List.mem_of_getElem? ho)
            have HIN := hide (fun (h1 : ddp c k2 = true) (h2 : o.fi = true) (h3 : o.ta = false) (h4 : o.ge < 4294967296) => held_in ho (by omega) h1 h2 h3 hge.1 h4)
            have r2 := (row_on HR26.out B6r.out).cell hlt2
            have r5 := (row_on HR56.out B6r.out).cell hlt2
            obtain ⟨o0, o1, o2, o3, o4, o5, o6, o7, o8⟩ := Ob.cells9 hoc
            obtain ⟨us, li, fi, ta, ag, ge, lk, nx, sl⟩ := o
            simp only at o0 o1 o2 o3 o4 o5 o6 o7 o8 DPE LUS HUS HIN
            obtain ⟨dp, hdp⟩ : ∃ dp, ddp c k2 = dp := ⟨_, rfl⟩
            obtain ⟨lb, hlb⟩ : ∃ lb, rb c.os (rts c) k2 = lb := ⟨_, rfl⟩
            obtain ⟨hb', hhb⟩ : ∃ hb', rb c.os (hls c) k2 = hb' := ⟨_, rfl⟩
            rw [hdp] at DAT DST DPE HIN
            rw [hlb] at r2 DPE LUS
            rw [hhb] at r5 HUS HIN
            obtain ⟨la, hla⟩ : ∃ la, (ddk c k2).length = la := ⟨_, rfl⟩
            rw [hla] at DAT
            rw [hla]
            have HLA := hide hla
            have LAn : la ≤ n := by rw [← hla]; have := ddk_len c k2; omega
            have LA1 := hide (show (ddk c (k2 + 1)).length = la + (if dp then 1 else 0) by rw [DST.out, List.length_append, HLA.out]; cases dp <;> rfl)
            clear ho hoc hse hdp hlb hhb hla
            go_upto_region 27 with (fail)
            go_cut [16] from 158 to 170 (fun s wx => s = .bool dp ∧ wx = wr)
            case first => as_aux_lemma =>
                by_cases hin : la < nd
                · have hin2 : (la : Int) < (nd : Int) := by omega
                  obtain ⟨y, hy⟩ : ∃ y, (dd c)[la]? = some y := ⟨(dd c)[la]'(by rw [Hnd.out]; exact hin), by simp [Hnd.out, hin]⟩
                  obtain ⟨gdd, hgd, _, _, hcy, _⟩ := owns_cell (owns_on HO36.out B6r.out) (ncs_get hy)
                  subst hgd
                  cases dp
                  · have e := DAT.out.2 rfl y hy
                    clear hy
                    go_wp2_with fail
                    go_meet
                    case rel => exact ⟨rfl, rfl⟩
                  · have e := DAT.out.1 rfl
                    rw [hy] at e
                    cases e
                    clear hy
                    go_wp2_with fail
                    go_meet
                    case rel => exact ⟨rfl, rfl⟩
                · have hin2 : ¬ (la : Int) < (nd : Int) := by omega
                  cases dp
                  · go_wp2_with fail
                    go_meet
                    case rel => exact ⟨rfl, rfl⟩
                  · exfalso
                    have e := DAT.out.1 rfl
                    have := (List.getElem?_eq_some_iff.1 e).1
                    rw [Hnd.out] at this
                    exact hin this
            case rest =>
              obtain ⟨rfl, rfl⟩ := hcut
              have c6 := (VF.out wc BX.out).2.2.2.2.2.2.1
              obtain ⟨W4, hW4, B4, R4⟩ := obox wc us li fi ta ag ge lk nx ai sl.length ci
              have HB4 := hide B4
              have p0 : W4.cell? ⟨wc.heap.size, 0, none⟩ = some (.bool us) := R4.cell (i := 0) (by decide)
              have p2 : W4.cell? ⟨wc.heap.size, 2, none⟩ = some (.bool fi) := R4.cell (i := 2) (by decide)
              have p3 : W4.cell? ⟨wc.heap.size, 3, none⟩ = some (.bool ta) := R4.cell (i := 3) (by decide)
              have p5 : W4.cell? ⟨wc.heap.size, 5, none⟩ = some (.int .u64 ge) := R4.cell (i := 5) (by decide)
              have r2' : W4.cell? ⟨g2, k2, none⟩ = some (.bool lb) := (B4.cell (p := ⟨g2, k2, none⟩) (World.block_lt_of_cell? _ _ r2)).trans r2
              have r5' : W4.cell? ⟨g5, k2, none⟩ = some (.bool hb') := (B4.cell (p := ⟨g5, k2, none⟩) (World.block_lt_of_cell? _ _ r5)).trans r5
              have B4z := hide (HB2.out.trans (B4.mono (by have := HB2.out.size; rw [Hz.out] at this; exact this)))
              clear R4 B4
              cases dp
              · as_aux_lemma =>
                  go_upto_region 31 with (fail)
                  clear o0 o1 o2 o3 o4 o5 o6 o7 o8 r2 r5 c6 hW4
                  go_cut [235] from 179 to 234 (fun s wx => s = .bool false ∧ wx = W4)
                  case first => as_aux_lemma =>
                    have h1 := DPE.out
                    have h2 := LUS.out
                    have h3 := HUS.out
                    clear DPE LUS HUS HIN
                    cases us
                    · cases lb
                      · cases hb'
                        · clear h1 h2 h3
                          go_wp2_with fail
                          go_meet
                          case rel => exact ⟨rfl, rfl⟩
                        · exact absurd (h3 rfl) (by simp)
                      · exact absurd (h2 rfl) (by simp)
                    · cases lb
                      · simp at h1
                      · clear h1 h2 h3
                        cases hb'
                        · go_wp2_with fail
                          go_meet
                          case rel => exact ⟨rfl, rfl⟩
                        · go_wp2_with fail
                          go_meet
                          case rel => exact ⟨rfl, rfl⟩
                  case rest =>
                    obtain ⟨rfl, rfl⟩ := hcut
                    clear p0 p2 p3 p5 r2' r5'
                    go_wp2_with fail
                    go_roundw
                    case rel => exact ⟨k2 + 1, by omega, by go_num, by rw [LA1.out]; simp, B4z.out⟩
                    case measure => simp [intOf]; omega
              · go_upto_region 31 with (fail)
                clear o0 o1 o2 o3 o4 o5 o6 o7 o8 r2 r5 c6 hW4
                have h1 := DPE.out
                have hus : us = true := by cases us <;> simp at h1 ⊢
                have hlf : lb = false := by cases us <;> cases lb <;> simp at h1 ⊢
                subst hus hlf
                have IN := HIN.out rfl
                clear h1 DPE LUS HUS HIN
                go_cut [235] from 179 to 234 (fun s wx => s = .bool false ∧ wx = W4)
                case first => as_aux_lemma =>
                  cases fi
                  · clear IN
                    cases hb'
                    · go_wp2_with fail
                      go_meet
                      case rel => exact ⟨rfl, rfl⟩
                    · go_wp2_with fail
                      go_meet
                      case rel => exact ⟨rfl, rfl⟩
                  · cases ta
                    · by_cases hg : ge < 4294967296
                      · have hbt := IN rfl rfl hg
                        subst hbt
                        clear IN
                        go_wp2_with fail
                        go_meet
                        case rel => exact ⟨rfl, rfl⟩
                      · clear IN
                        cases hb'
                        · go_wp2_with fail
                          go_meet
                          case rel => exact ⟨rfl, rfl⟩
                        · go_wp2_with fail
                          go_meet
                          case rel => exact ⟨rfl, rfl⟩
                    · clear IN
                      cases hb'
                      · go_wp2_with fail
                        go_meet
                        case rel => exact ⟨rfl, rfl⟩
                      · go_wp2_with fail
                        go_meet
                        case rel => exact ⟨rfl, rfl⟩
                case rest =>
                  obtain ⟨rfl, rfl⟩ := hcut
                  clear p0 p2 p3 p5 r2' r5' IN
                  go_wp2_with fail
                  go_roundw
                  case rel => exact ⟨k2 + 1, by omega, by go_num, by rw [LA1.out]; simp, B4z.out⟩
                  case measure => simp [intOf]; omega
          · have hkn2 : ¬ (k2 : Int) < (n : Int) := by omega
            have hke : k2 = n := by omega
            have LE := hide (show (ddk c k2).length = nd by rw [hke, ← Hn.out]; exact Hnd.out)
            rw [LE.out]
            by_cases h0 : 0 < wl
            · have LST := HWY.out.last (by rw [Hwl.out]; exact h0)
              rw [Hwl.out] at LST
              obtain ⟨gw, hgw, _, _, hcl, _⟩ := owns_cell (owns_on HO46.out B6r.out) (ncs_get LST)
              subst hgw
              obtain ⟨w1', hw1'⟩ : ∃ w1', wl = w1' + 1 := ⟨wl - 1, by omega⟩
              subst hw1'
              simp only [Nat.add_sub_cancel] at hcl
              have i1 : (w1' : Int) < ((w1' + 1 : Nat) : Int) := by omega
              clear LST
              go_wp2_with fail
              go_ret
              exact ⟨rfl, HB0.out.trans (BX.out.mono HB0.out.size)⟩
            · obtain rfl : wl = 0 := by omega
              go_wp2_with fail
              go_ret
              exact ⟨rfl, HB0.out.trans (BX.out.mono HB0.out.size)⟩
end Gr
end Go.Proofs.Ytakgidhblkjjbaa
