/-
  Graph: the document's Reach
-/
import Derived.Test.YtlbcjolbgeficaaGrRa
import Derived.Test.YtlbcjolbgeficaaGrRn
namespace Go.Proofs.Ytlbcjolbgeficaa
open Go.RowKit
set_option linter.unusedVariables false
set_option linter.unusedSimpArgs false
set_option linter.unnecessarySimpa false
set_option maxRecDepth 20000
namespace Gr
theorem Gj.rb {os : List Ob} {l : List Int} {s : Wk} (G : Gj os l s.ln.length s) (i : Nat) : (s.A i != 0) = rb os l i := by
  have h1 := G.rc i
  have h2 := rb_iff os l i
  cases h : Gr.rb os l i with
  | true => rw [h] at h2; simpa using h1.2 (h2.1 rfl)
  | false =>
    rw [h] at h2
    have : ¬ Rc os l (i + 1) := fun hr => by have := h2.2 hr; cases this
    have h3 : ¬ s.A i ≠ 0 := fun hA => this (h1.1 hA)
    simpa using h3

set_option maxHeartbeats 8000000 in
theorem rreach_ok {c : Vc} {a : Av} {w : World} {fa' : Option Addr} {fc : Nat} {l : List Int} (hS : Sob w a.oa c.os) (hL : SeesU w fa' l) (hB : Bd c.os) (hW : Wd l) (hll : l.length ≤ 35184372088832) :
    Calls Try.prog 16 #[vl c a, .slice fa' l.length fc] w fun e w' => Bt w w' e c.os.length (rb c.os l) := by
  have hmk := run_make_row' (P := Try.prog) 32 4 _ 1 Try.underlying32 infoBb rfl .i64 .i64 c.os.length (by have := hB.no; omega) (by have := hB.no; omega)
  obtain ⟨W0, hW0, B0, R0⟩ := vbox w c a
  have VF := hide (fun (wx : World) (hb : Below W0.heap.size W0 wx) => vcells (row_on R0 hb))
  have HB0 := hide B0
  have HS0 := hide (hS.below B0)
  have HL0 := hide (hL.below B0)
  have l0 : w.heap.size < W0.heap.size := R0.lt
  have GO := hide (fun (w1 : World) (h1 : Sob w1 a.oa c.os) (u : Int) (h2 : 0 ≤ u ∧ u < 18446744073709551616) => goodr_ok (a := a) h1 hB h2.1 h2.2)
  have HBd := hide hB
  have HWd1 := hide hW
  have hno := hB.no
  clear hS hB hL hW B0 R0
  obtain ⟨ph, co, ro, aa, na, ca, ra, cr, wa, nw, cw, oa, cb, fa, nf, cf, ga, ng, cg, qa, cq, k0, k1, k2, k3⟩ := a
  simp only [vl] at GO ⊢
  simp only at hW0 VF GO HS0
  obtain ⟨n, hn⟩ : ∃ n, c.os.length = n := ⟨_, rfl⟩
  obtain ⟨nr, hnre⟩ : ∃ nr, c.rs.length = nr := ⟨_, rfl⟩
  obtain ⟨nqz, hnqe⟩ : ∃ nqz, c.qu.length = nqz := ⟨_, rfl⟩
  obtain ⟨N, hN⟩ : ∃ N, l.length = N := ⟨_, rfl⟩
  simp only [hn, hnre, hnqe, hN] at hW0 VF GO hmk hno hll ⊢
  obtain ⟨os, hos⟩ : ∃ os, c.os = os := ⟨_, rfl⟩
  rw [hos] at HS0 HBd hn
  simp only [hos] at GO ⊢
  have Hn := hide hn
  have HN := hide hN
  clear hn hnre hnqe hN hos
  obtain ⟨iI, hiI, hzI, hsI, hyI⟩ := infoI
  obtain ⟨z, hz⟩ : ∃ z, W0.heap.size = z := ⟨_, rfl⟩
  have Hz := hide hz
  have c6 := (VF.out W0 (Below.refl _ _)).2.2.2.2.2.2.1
  obtain ⟨W1, hW1⟩ : ∃ W1, W0.alloc (.cells (madeCells #[.bool false] n) 4) = W1 := ⟨_, rfl⟩
  have R1 := hide (show W1.rowIs z 4 n (fun _ => .bool false) by rw [← hW1, ← hz]; exact rows_made _ _ _ _)
  have B1 := hide (show Below z W0 W1 by rw [← hW1, ← hz]; exact (Below.refl _ W0).alloc (Nat.le_refl _) _)
  have LEN1 := hide (puts_len (os := os) (ah := 1) (s := ⟨fun _ => 0, []⟩) (by omega) me0 List.nodup_nil (by simp))
  rw [hz] at l0
  go_enter Try.func16, Try.ntmps16
  go_wp2_with fail
  clear hmk hW0 hW1 c6 hz
  go_loopw [6, 7] (fun v i wr => ∃ k : Nat, k ≤ N ∧ i = .int .i64 k ∧ Hid (wr.rowIs z 4 n (fun i => .bool ((puts os 1 ⟨fun _ => 0, []⟩ (l.take k)).A i != 0))) ∧ Hid (wr.ownsRow (z + 1) 3 1 v (puts os 1 ⟨fun _ => 0, []⟩ (l.take k)).ln.length (ncs (puts os 1 ⟨fun _ => 0, []⟩ (l.take k)).ln)) ∧ Hid (Below z W0 wr)) (fun _ i _ => N - (intOf i).toNat)
  case atStart => exact ⟨0, Nat.zero_le _, rfl, R1.out.congr (fun i hi => by simp [puts]), ⟨rfl, .inl ⟨rfl, rfl⟩⟩, B1.out⟩
  case round =>
    obtain ⟨k, hk, rfl, HA, HO, HB⟩ := hrel
    have HBw := hide (show Below W0.heap.size W0 wr by rw [Hz.out]; exact HB.out)
    have hzw : z ≤ wr.heap.size := Nat.le_of_lt HA.out.lt
    obtain ⟨la0, cp0, hv0⟩ := own_slice HO.out
    subst hv0
    by_cases hlt1 : k < N
    · skip
      have hkn : (k : Int) < (N : Int) := by omega
      obtain ⟨u, hu⟩ : ∃ u, l[k]? = some u := ⟨l[k]'(by rw [HN.out]; exact hlt1), by simp [HN.out, hlt1]⟩
      have hwu := HWd1.out u (List.mem_of_getElem? hu)
      obtain ⟨b1, off1, hao1, hbl, hcc⟩ := HL0.out.below HBw.out k u hu
      subst hao1
      have D1 : Below W0.heap.size W0 wr.drew := ⟨HBw.out.os, HBw.out.tape, HBw.out.output, HBw.out.size, HBw.out.block⟩
      have K0 := VF.out wr.drew D1
      have hcd : wr.drew.cell? ⟨b1, off1 + k, none⟩ = some (.int .u64 u) := hcc
      have GX := hide (GO.out wr.drew (HS0.out.below D1) u hwu)
      have TK := hide (show puts os 1 ⟨fun _ => 0, []⟩ (l.take (k + 1)) = put os 1 (puts os 1 ⟨fun _ => 0, []⟩ (l.take k)) u by rw [List.take_add_one, hu]; exact puts_snoc _ _ _ _ _)
      have TL := hide (show (puts os 1 ⟨fun _ => 0, []⟩ (l.take k)).ln.length ≤ os.length from LEN1.out _)
      obtain ⟨t, ht⟩ : ∃ t, puts os 1 ⟨fun _ => 0, []⟩ (l.take k) = t := ⟨_, rfl⟩
      rw [ht] at HA HO TK TL ⊢
      clear ht
      obtain ⟨m, hm⟩ : ∃ m, gd os u = m := ⟨_, rfl⟩
      have hmn : m ≤ n := by rw [← hm, ← Hn.out]; exact gd_le _ _
      rw [hm] at GX
      have Hm := hide hm
      clear hu hm hwu
      go_upto_region 6 with (fail)
      go_region_held (fun w' => w'.cell? ⟨w.heap.size, 0, none⟩ = some (.int .i64 ph) ∧ w'.cell? ⟨w.heap.size, 1, none⟩ = some (.int .i64 co) ∧ w'.cell? ⟨w.heap.size, 2, none⟩ = some (.int .u64 ro) ∧ w'.cell? ⟨w.heap.size, 3, none⟩ = some (.slice aa na ca) ∧ w'.cell? ⟨w.heap.size, 4, none⟩ = some (.slice ra nr cr) ∧ w'.cell? ⟨w.heap.size, 5, none⟩ = some (.slice wa nw cw) ∧ w'.cell? ⟨w.heap.size, 6, none⟩ = some (.slice oa n cb) ∧ w'.cell? ⟨w.heap.size, 7, none⟩ = some (.slice fa nf cf) ∧ w'.cell? ⟨w.heap.size, 8, none⟩ = some (.slice ga ng cg) ∧ w'.cell? ⟨w.heap.size, 9, none⟩ = some (.slice qa nqz cq) ∧ w'.cell? ⟨w.heap.size, 10, none⟩ = some (.int .u64 k0) ∧ w'.cell? ⟨w.heap.size, 11, none⟩ = some (.int .u64 k1) ∧ w'.cell? ⟨w.heap.size, 12, none⟩ = some (.int .u64 k2) ∧ w'.cell? ⟨w.heap.size, 13, none⟩ = some (.int .u64 k3) ∧ w'.cell? ⟨b1, off1 + k, none⟩ = some (.int .u64 u)) (first | exact ⟨K0.1, K0.2.1, K0.2.2.1, K0.2.2.2.1, K0.2.2.2.2.1, K0.2.2.2.2.2.1, K0.2.2.2.2.2.2.1, K0.2.2.2.2.2.2.2.1, K0.2.2.2.2.2.2.2.2.1, K0.2.2.2.2.2.2.2.2.2.1, K0.2.2.2.2.2.2.2.2.2.2.1, K0.2.2.2.2.2.2.2.2.2.2.2.1, K0.2.2.2.2.2.2.2.2.2.2.2.2.1, K0.2.2.2.2.2.2.2.2.2.2.2.2.2, hcd⟩ | exact ⟨K1.1, K1.2.1, K1.2.2.1, K1.2.2.2.1, K1.2.2.2.2.1, K1.2.2.2.2.2.1, K1.2.2.2.2.2.2.1, K1.2.2.2.2.2.2.2.1, K1.2.2.2.2.2.2.2.2.1, K1.2.2.2.2.2.2.2.2.2.1, K1.2.2.2.2.2.2.2.2.2.2.1, K1.2.2.2.2.2.2.2.2.2.2.2.1, K1.2.2.2.2.2.2.2.2.2.2.2.2.1, K1.2.2.2.2.2.2.2.2.2.2.2.2.2, hc1⟩) ((go_at_call 26; refine GX.out.mono ?_; rintro e w1 ⟨rfl, hb⟩; have HB1 := hide hb; have K1 := VF.out w1 (D1.trans (hb.mono D1.size)); have hc1 : w1.cell? ⟨b1, off1 + k, none⟩ = some (.int .u64 u) := (hb.cell (p := ⟨b1, off1 + k, none⟩) hbl).trans hcd; clear hb))
      have D2 : Below wr.heap.size wr w1 := ⟨HB1.out.os, HB1.out.tape, HB1.out.output, HB1.out.size, HB1.out.block⟩
      have HA1 := hide (row_on HA.out D2)
      have HO1 := hide (owns_on HO.out D2)
      have HBz := hide (show Below z W0 w1 from HB.out.trans (D2.mono hzw))
      clear K0 K1 hcd hc1 D1 hcc
      have hz1 : z < w1.heap.size := HA1.out.lt
      by_cases hm0 : m = 0
      · subst hm0
        have NX := hide (show put os 1 t u = t by unfold put; rw [if_neg (by rw [Hm.out]; simp)])
        go_wp2_with fail
        go_roundw
        case rel =>
          refine ⟨k + 1, by omega, by go_num, ?_, ?_, HBz.out⟩
          · rw [TK.out, NX.out]; exact HA1.out
          · rw [TK.out, NX.out]; exact HO1.out
        case measure => simp [intOf]; omega
      · obtain ⟨q, rfl⟩ : ∃ q, m = q + 1 := ⟨m - 1, by omega⟩
        have hq : q < n := by omega
        have hq2 : (q : Int) < (n : Int) := by omega
        have cA := HA1.out.cell hq
        obtain ⟨av, hav⟩ : ∃ av, (t.A q != 0) = av := ⟨_, rfl⟩
        rw [hav] at cA
        cases av
        · have hA0 : t.A q = 0 := by simpa using hav
          have HA0 := hide hA0
          have NX := hide (show put os 1 t u = ⟨ud t.A q 1, t.ln ++ [(q : Int) + 1]⟩ by unfold put; rw [Hm.out, if_pos (by simp [hA0])]; simp)
          have fA := HA1.out.frozen q
          obtain ⟨tn, htn⟩ : ∃ tn, t.ln.length = tn := ⟨_, rfl⟩
          have htn2 : tn ≤ n := by rw [← htn, ← Hn.out]; exact TL.out
          rw [htn] at HO1 ⊢
          have HTN := hide htn
          obtain ⟨W6, hW6⟩ : ∃ W6, w1.setCell ⟨z, q, none⟩ (.bool true) = W6 := ⟨_, rfl⟩
          have sz6 : W6.heap.size = w1.heap.size := by rw [← hW6]; simp
          have O6 := hide (show (W6.alloc (.cells #[.int .i64 ((q : Int) + 1)] 3)).ownsRow (z + 1) 3 1 (.slice la0 tn cp0) tn (ncs t.ln) by
            rw [← hW6]
            exact owns_keep HO1.out (fun b hb1 hb2 => (Below.heap_alloc _ _ _ (by simpa using hb1)).trans (Below.heap_setCell _ _ _ _ (by simp only; omega))))
          have HA6 := hide (show W6.rowIs z 4 n (fun i => .bool (ud t.A q 1 i != 0)) by
            rw [← hW6]
            refine (HA1.out.set q _).congr (fun i hi => ?_)
            by_cases e : i = q
            · subst e; simp [ud]
            · simp [ud, e])
          have HB6 := hide (show Below z W0 W6 by rw [← hW6]; exact HBz.out.setCell (by simp) _)
          have hz6 : z < W6.heap.size := by rw [sz6]; exact hz1
          clear htn hav hA0
          go_wp2_with (at_builtin; refine wpList_append_own_at _ rfl (.tmp 43) (.tmp 45) 26 rfl (z + 1) 3 iI (.int .i64 0) 1 8 Try.underlying26 hiI hzI hsI hyI rfl (by decide) (.slice la0 tn cp0) tn (ncs t.ln) rfl O6.out ⟨w1.heap.size, 0, none⟩ 1 1 (ncs [(q : Int) + 1]) rfl rfl (fun j v hj => by rw [Go.WideShapes.add_plain]; have hj1 : j < 1 := (by have := (List.getElem?_eq_some_iff.1 hj).1; simpa [ncs] using this); (obtain rfl : j = 0 := (by omega)); simp [ncs] at hj; rw [← hj]; simpa [← sz6] using (rowL_alloc W6 [.int .i64 ((q : Int) + 1)] 3 rfl).cell (i := 0) (by simp)) (ncs_one _) (by unfold maxLen; omega) (by omega) (by simp; omega) ?_; intro v2 w2 hown hgr _ _; obtain ⟨la3, cp3, rfl⟩ := own_slice hown; have HO9 := hide hown; have HB9 := hide (below_grown (w := W0) (B := z) (HB6.out.alloc (by omega) (.cells #[.int .i64 ((q : Int) + 1)] 3)) (owns_low O6.out (by omega)) hgr (by simp; omega)); have HA9 := hide ((HA6.out.alloc (.cells #[.int .i64 ((q : Int) + 1)] 3)).of_block (hgr.block z (by simp; omega) (ownBlock_ge O6.out (by omega)))); clear hown hgr)
          go_roundw
          case rel =>
            refine ⟨k + 1, by omega, by go_num, ?_, ?_, HB9.out⟩
            · rw [TK.out, NX.out]; exact HA9.out
            · show World.ownsRow _ _ _ _ _ _ _
              rw [TK.out, NX.out]
              simp only
              rw [ncs_app, List.length_append, HTN.out]
              exact HO9.out
          case measure => simp [intOf]; omega
        · have NX := hide (show put os 1 t u = t by unfold put; rw [if_neg (by rw [Hm.out]; simpa using hav)])
          clear hav
          go_wp2_with fail
          go_roundw
          case rel =>
            refine ⟨k + 1, by omega, by go_num, ?_, ?_, HBz.out⟩
            · rw [TK.out, NX.out]; exact HA1.out
            · rw [TK.out, NX.out]; exact HO1.out
          case measure => simp [intOf]; omega
    · have hkn : ¬ (k : Int) < (N : Int) := by omega
      have e0 : l.take k = l := List.take_of_length_le (by rw [HN.out]; omega)
      rw [e0] at HA HO
      rw [e0]
      have G0 := hide (gj_start os l)
      obtain ⟨s0, hs0⟩ : ∃ s0, puts os 1 ⟨fun _ => 0, []⟩ l = s0 := ⟨_, rfl⟩
      rw [hs0] at HA HO G0
      rw [hs0]
      clear hs0 e0
      obtain ⟨wo, rfl⟩ : ∃ wo, wo = wr := ⟨_, rfl⟩
      go_wp2_with fail
      clear hkn hlt1 hk hzw HBw
      go_loopw [6, 9] (fun v i wr => ∃ (k : Nat) (s : Wk), k ≤ n ∧ i = .int .i64 k ∧ Hid (Gj os l k s) ∧ Hid (wr.rowIs z 4 n (fun i => .bool (s.A i != 0))) ∧ Hid (wr.ownsRow (z + 1) 3 1 v s.ln.length (ncs s.ln)) ∧ Hid (Below z W0 wr)) (fun _ i _ => n - (intOf i).toNat)
      case atStart => exact ⟨0, s0, Nat.zero_le _, rfl, G0.out, HA.out, HO.out, HB.out⟩
      case round =>
        obtain ⟨at', s, hat, rfl, HG, HA, HO, HB⟩ := hrel
        have HBw := hide (show Below W0.heap.size W0 wr by rw [Hz.out]; exact HB.out)
        have hzw : z ≤ wr.heap.size := Nat.le_of_lt HA.out.lt
        obtain ⟨la1, cp1, hv1⟩ := own_slice HO.out
        subst hv1
        obtain ⟨sn, hsn⟩ : ∃ sn, s.ln.length = sn := ⟨_, rfl⟩
        have HSn := hide hsn
        have hsl : sn ≤ n := by rw [← hsn, ← Hn.out]; exact HG.out.len
        by_cases hlt2 : at' < sn
        · have hkn2 : (at' : Int) < (sn : Int) := by omega
          obtain ⟨p, hp⟩ : ∃ p, s.ln[at']? = some p := ⟨s.ln[at']'(by rw [hsn]; exact hlt2), by simp [hsn, hlt2]⟩
          have hpr := HG.out.rng p (List.mem_of_getElem? hp)
          obtain ⟨q0, rfl⟩ : ∃ q0 : Nat, p = (q0 : Int) + 1 := ⟨p.toNat - 1, by omega⟩
          have hqn : q0 < n := by rw [← Hn.out]; omega
          have hqn2 : (q0 : Int) < (n : Int) := by omega
          obtain ⟨o, ho⟩ : ∃ o, os[q0]? = some o := ⟨os[q0]'(by rw [Hn.out]; exact hqn), by simp [Hn.out, hqn]⟩
          obtain ⟨b, off, ai, ci, hoa, hbl0, hoc, hse⟩ := HS0.out q0 o ho
          have hom := List.mem_of_getElem? ho
          have GS := hide (gj_step HG.out hp (show os[((q0 : Int) + 1).toNat - 1]? = some o by rw [show ((q0 : Int) + 1).toNat - 1 = q0 by omega]; exact ho))
          have HWd2 := hide (HBd.out.sl o hom)
          have HSE := hide hse
          have LEN2 := hide (puts_len (os := os) (ah := 1) (by omega) HG.out.me HG.out.nd HG.out.rng)
          subst hoa
          have o8 : wr.cell? ⟨b, off + q0 * 9 + 8, none⟩ = some (.slice ai o.sl.length ci) := (HBw.out.cell (p := ⟨b, off + q0 * 9 + 8, none⟩) hbl0).trans (hoc 8 (by decide))
          have c6 := (VF.out wr HBw.out).2.2.2.2.2.2.1
          obtain ⟨g0, hla, _, _, hcg, _⟩ := owns_cell HO.out (ncs_get hp)
          subst hla
          obtain ⟨M, hM⟩ : ∃ M, o.sl.length = M := ⟨_, rfl⟩
          have hMb : M ≤ 35184372088832 := by rw [← hM]; exact HBd.out.ns o hom
          rw [hM] at o8
          have HMM := hide hM
          have l3 : IntKind.i64.wrap (q0 : Int) = (q0 : Int) := by rw [IntKind.wrap_i64]; omega
          rw [hsn] at HO ⊢
          clear hp hpr hom ho hoc hse hM hsn
          obtain ⟨wo2, rfl⟩ : ∃ wo2, wo2 = wr := ⟨_, rfl⟩
          go_upto_region 13 with (fail)
          go_quiet (fail)
          go_wp2_with fail
          clear c6 o8 hcg l3 hkn2
          go_loopw [6, 11] (fun v i wr => ∃ k : Nat, k ≤ M ∧ i = .int .i64 k ∧ Hid (wr.rowIs z 4 n (fun i => .bool ((puts os 1 s (o.sl.take k)).A i != 0))) ∧ Hid (wr.ownsRow (z + 1) 3 1 v (puts os 1 s (o.sl.take k)).ln.length (ncs (puts os 1 s (o.sl.take k)).ln)) ∧ Hid (Below z W0 wr)) (fun _ i _ => M - (intOf i).toNat)
          case atStart => exact ⟨0, Nat.zero_le _, rfl, HA.out, (by show World.ownsRow _ _ _ _ _ _ _; have := owns_on HO.out (below_drewN (Below.refl _ _) nq); rw [← HSn.out] at this; simpa [puts, HSn.out] using this), ⟨HB.out.os, HB.out.tape, HB.out.output, HB.out.size, HB.out.block⟩⟩
          case round =>
            clear HA HO HB HBw hzw
            obtain ⟨k, hk, rfl, HA, HO, HB⟩ := hrel
            have HBw := hide (show Below W0.heap.size W0 wr by rw [Hz.out]; exact HB.out)
            have hzw : z ≤ wr.heap.size := Nat.le_of_lt HA.out.lt
            obtain ⟨la3, cp3x, hv3⟩ := own_slice HO.out
            subst hv3
            by_cases hlt2 : k < M
            · skip
              have hkn : (k : Int) < (M : Int) := by omega
              obtain ⟨u, hu⟩ : ∃ u, o.sl[k]? = some u := ⟨o.sl[k]'(by rw [HMM.out]; exact hlt2), by simp [HMM.out, hlt2]⟩
              have hwu := HWd2.out u (List.mem_of_getElem? hu)
              obtain ⟨b2, off2, hao2, hbl, hcc⟩ := HSE.out.below HBw.out k u hu
              subst hao2
              have D1 : Below W0.heap.size W0 wr.drew := ⟨HBw.out.os, HBw.out.tape, HBw.out.output, HBw.out.size, HBw.out.block⟩
              have K0 := VF.out wr.drew D1
              have hcd : wr.drew.cell? ⟨b2, off2 + k, none⟩ = some (.int .u64 u) := hcc
              have GX := hide (GO.out wr.drew (HS0.out.below D1) u hwu)
              have TK := hide (show puts os 1 s (o.sl.take (k + 1)) = put os 1 (puts os 1 s (o.sl.take k)) u by rw [List.take_add_one, hu]; exact puts_snoc _ _ _ _ _)
              have TL := hide (show (puts os 1 s (o.sl.take k)).ln.length ≤ os.length from LEN2.out _)
              obtain ⟨t, ht⟩ : ∃ t, puts os 1 s (o.sl.take k) = t := ⟨_, rfl⟩
              rw [ht] at HA HO TK TL ⊢
              clear ht
              obtain ⟨m, hm⟩ : ∃ m, gd os u = m := ⟨_, rfl⟩
              have hmn : m ≤ n := by rw [← hm, ← Hn.out]; exact gd_le _ _
              rw [hm] at GX
              have Hm := hide hm
              clear hu hm hwu
              go_upto_region 17 with (fail)
              go_region_held (fun w' => w'.cell? ⟨w.heap.size, 0, none⟩ = some (.int .i64 ph) ∧ w'.cell? ⟨w.heap.size, 1, none⟩ = some (.int .i64 co) ∧ w'.cell? ⟨w.heap.size, 2, none⟩ = some (.int .u64 ro) ∧ w'.cell? ⟨w.heap.size, 3, none⟩ = some (.slice aa na ca) ∧ w'.cell? ⟨w.heap.size, 4, none⟩ = some (.slice ra nr cr) ∧ w'.cell? ⟨w.heap.size, 5, none⟩ = some (.slice wa nw cw) ∧ w'.cell? ⟨w.heap.size, 6, none⟩ = some (.slice (some ⟨b, off, none⟩) n cb) ∧ w'.cell? ⟨w.heap.size, 7, none⟩ = some (.slice fa nf cf) ∧ w'.cell? ⟨w.heap.size, 8, none⟩ = some (.slice ga ng cg) ∧ w'.cell? ⟨w.heap.size, 9, none⟩ = some (.slice qa nqz cq) ∧ w'.cell? ⟨w.heap.size, 10, none⟩ = some (.int .u64 k0) ∧ w'.cell? ⟨w.heap.size, 11, none⟩ = some (.int .u64 k1) ∧ w'.cell? ⟨w.heap.size, 12, none⟩ = some (.int .u64 k2) ∧ w'.cell? ⟨w.heap.size, 13, none⟩ = some (.int .u64 k3) ∧ w'.cell? ⟨b2, off2 + k, none⟩ = some (.int .u64 u)) (first | exact ⟨K0.1, K0.2.1, K0.2.2.1, K0.2.2.2.1, K0.2.2.2.2.1, K0.2.2.2.2.2.1, K0.2.2.2.2.2.2.1, K0.2.2.2.2.2.2.2.1, K0.2.2.2.2.2.2.2.2.1, K0.2.2.2.2.2.2.2.2.2.1, K0.2.2.2.2.2.2.2.2.2.2.1, K0.2.2.2.2.2.2.2.2.2.2.2.1, K0.2.2.2.2.2.2.2.2.2.2.2.2.1, K0.2.2.2.2.2.2.2.2.2.2.2.2.2, hcd⟩ | exact ⟨K1.1, K1.2.1, K1.2.2.1, K1.2.2.2.1, K1.2.2.2.2.1, K1.2.2.2.2.2.1, K1.2.2.2.2.2.2.1, K1.2.2.2.2.2.2.2.1, K1.2.2.2.2.2.2.2.2.1, K1.2.2.2.2.2.2.2.2.2.1, K1.2.2.2.2.2.2.2.2.2.2.1, K1.2.2.2.2.2.2.2.2.2.2.2.1, K1.2.2.2.2.2.2.2.2.2.2.2.2.1, K1.2.2.2.2.2.2.2.2.2.2.2.2.2, hc1⟩) ((go_at_call 26; refine GX.out.mono ?_; rintro e w1 ⟨rfl, hb⟩; have HB1 := hide hb; have K1 := VF.out w1 (D1.trans (hb.mono D1.size)); have hc1 : w1.cell? ⟨b2, off2 + k, none⟩ = some (.int .u64 u) := (hb.cell (p := ⟨b2, off2 + k, none⟩) hbl).trans hcd; clear hb))
              have D2 : Below wr.heap.size wr w1 := ⟨HB1.out.os, HB1.out.tape, HB1.out.output, HB1.out.size, HB1.out.block⟩
              have HA1 := hide (row_on HA.out D2)
              have HO1 := hide (owns_on HO.out D2)
              have HBz := hide (show Below z W0 w1 from HB.out.trans (D2.mono hzw))
              clear K0 K1 hcd hc1 D1 hcc
              have hz1 : z < w1.heap.size := HA1.out.lt
              by_cases hm0 : m = 0
              · subst hm0
                have NX := hide (show put os 1 t u = t by unfold put; rw [if_neg (by rw [Hm.out]; simp)])
                go_wp2_with fail
                go_roundw
                case rel =>
                  refine ⟨k + 1, by omega, by go_num, ?_, ?_, HBz.out⟩
                  · rw [TK.out, NX.out]; exact HA1.out
                  · rw [TK.out, NX.out]; exact HO1.out
                case measure => simp [intOf]; omega
              · obtain ⟨q, rfl⟩ : ∃ q, m = q + 1 := ⟨m - 1, by omega⟩
                have hq : q < n := by omega
                have hq2 : (q : Int) < (n : Int) := by omega
                have cA := HA1.out.cell hq
                obtain ⟨av, hav⟩ : ∃ av, (t.A q != 0) = av := ⟨_, rfl⟩
                rw [hav] at cA
                cases av
                · have hA0 : t.A q = 0 := by simpa using hav
                  have HA0 := hide hA0
                  have NX := hide (show put os 1 t u = ⟨ud t.A q 1, t.ln ++ [(q : Int) + 1]⟩ by unfold put; rw [Hm.out, if_pos (by simp [hA0])]; simp)
                  have fA := HA1.out.frozen q
                  obtain ⟨tn, htn⟩ : ∃ tn, t.ln.length = tn := ⟨_, rfl⟩
                  have htn2 : tn ≤ n := by rw [← htn, ← Hn.out]; exact TL.out
                  rw [htn] at HO1 ⊢
                  have HTN := hide htn
                  obtain ⟨W6, hW6⟩ : ∃ W6, w1.setCell ⟨z, q, none⟩ (.bool true) = W6 := ⟨_, rfl⟩
                  have sz6 : W6.heap.size = w1.heap.size := by rw [← hW6]; simp
                  have O6 := hide (show (W6.alloc (.cells #[.int .i64 ((q : Int) + 1)] 3)).ownsRow (z + 1) 3 1 (.slice la3 tn cp3x) tn (ncs t.ln) by
                    rw [← hW6]
                    exact owns_keep HO1.out (fun b hb1 hb2 => (Below.heap_alloc _ _ _ (by simpa using hb1)).trans (Below.heap_setCell _ _ _ _ (by simp only; omega))))
                  have HA6 := hide (show W6.rowIs z 4 n (fun i => .bool (ud t.A q 1 i != 0)) by
                    rw [← hW6]
                    refine (HA1.out.set q _).congr (fun i hi => ?_)
                    by_cases e : i = q
                    · subst e; simp [ud]
                    · simp [ud, e])
                  have HB6 := hide (show Below z W0 W6 by rw [← hW6]; exact HBz.out.setCell (by simp) _)
                  have hz6 : z < W6.heap.size := by rw [sz6]; exact hz1
                  clear htn hav hA0
                  go_wp2_with (at_builtin; refine wpList_append_own_at _ rfl (.tmp 89) (.tmp 91) 26 rfl (z + 1) 3 iI (.int .i64 0) 1 8 Try.underlying26 hiI hzI hsI hyI rfl (by decide) (.slice la3 tn cp3x) tn (ncs t.ln) rfl O6.out ⟨w1.heap.size, 0, none⟩ 1 1 (ncs [(q : Int) + 1]) rfl rfl (fun j v hj => by rw [Go.WideShapes.add_plain]; have hj1 : j < 1 := (by have := (List.getElem?_eq_some_iff.1 hj).1; simpa [ncs] using this); (obtain rfl : j = 0 := (by omega)); simp [ncs] at hj; rw [← hj]; simpa [← sz6] using (rowL_alloc W6 [.int .i64 ((q : Int) + 1)] 3 rfl).cell (i := 0) (by simp)) (ncs_one _) (by unfold maxLen; omega) (by omega) (by simp; omega) ?_; intro v2 w2 hown hgr _ _; obtain ⟨la3, cp3, rfl⟩ := own_slice hown; have HO9 := hide hown; have HB9 := hide (below_grown (w := W0) (B := z) (HB6.out.alloc (by omega) (.cells #[.int .i64 ((q : Int) + 1)] 3)) (owns_low O6.out (by omega)) hgr (by simp; omega)); have HA9 := hide ((HA6.out.alloc (.cells #[.int .i64 ((q : Int) + 1)] 3)).of_block (hgr.block z (by simp; omega) (ownBlock_ge O6.out (by omega)))); clear hown hgr)
                  go_roundw
                  case rel =>
                    refine ⟨k + 1, by omega, by go_num, ?_, ?_, HB9.out⟩
                    · rw [TK.out, NX.out]; exact HA9.out
                    · show World.ownsRow _ _ _ _ _ _ _
                      rw [TK.out, NX.out]
                      simp only
                      rw [ncs_app, List.length_append, HTN.out]
                      exact HO9.out
                  case measure => simp [intOf]; omega
                · have NX := hide (show put os 1 t u = t by unfold put; rw [if_neg (by rw [Hm.out]; simpa using hav)])
                  clear hav
                  go_wp2_with fail
                  go_roundw
                  case rel =>
                    refine ⟨k + 1, by omega, by go_num, ?_, ?_, HBz.out⟩
                    · rw [TK.out, NX.out]; exact HA1.out
                    · rw [TK.out, NX.out]; exact HO1.out
                  case measure => simp [intOf]; omega
            · have hkn : ¬ (k : Int) < (M : Int) := by omega
              have e0 : o.sl.take k = o.sl := List.take_of_length_le (by rw [HMM.out]; omega)
              rw [e0] at HA HO
              rw [e0]
              go_wp2_with fail
              go_roundw
              case rel => exact ⟨at' + 1, _, by omega, by go_num, GS.out, HA.out, HO.out, HB.out⟩
              case measure => simp [intOf]; omega
        · have hkn2 : ¬ (at' : Int) < (sn : Int) := by omega
          have hke : at' = s.ln.length := by have := HG.out.le; omega
          have RBX := hide (show ∀ i, (s.A i != 0) = rb os l i from fun i => Gj.rb (by rw [← hke]; exact HG.out) i)
          rw [hsn]
          clear hsn hke
          go_wp2_with fail
          go_ret
          exact ⟨z, rfl, by omega, HA.out.congr (fun i hi => by rw [RBX.out i]), HB0.out.trans (HB.out.mono (by omega))⟩
end Gr
end Go.Proofs.Ytlbcjolbgeficaa
