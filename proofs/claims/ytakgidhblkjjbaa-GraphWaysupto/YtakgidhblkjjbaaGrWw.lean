/-
  Graph: the document's Way
-/
import Derived.Test.YtakgidhblkjjbaaGrWd
namespace Go.Proofs.Ytakgidhblkjjbaa
open Go.RowKit
set_option linter.unusedVariables false
set_option linter.unusedSimpArgs false
set_option linter.unnecessarySimpa false
set_option maxRecDepth 20000
namespace Gr
theorem own_one (W : World) (x : Int) : (W.alloc (.cells #[.int .i64 x] 3)).ownsRow W.heap.size 3 1 (.slice (some ⟨W.heap.size, 0, none⟩) 1 1) 1 (ncs [x]) := by
  refine ⟨by simp [ncs], .inr ⟨W.heap.size, 1, #[.int .i64 x], rfl, Nat.le_refl _, (by first | exact Array.getElem?_push_size | (simp only [World.alloc, Array.getElem?_push_size]) | (show (W.heap.push _)[W.heap.size]? = _; rw [Array.getElem?_push_size])), Nat.le_refl _, (by unfold maxLen; omega), rfl, rfl⟩⟩
set_option maxHeartbeats 8000000 in
theorem rway_ok {c : Vc} {a : Av} {w : World} (hS : Shows w c a) (hB : Bv c) {tg : Int} {wy : List Int} (hw : Wl c tg wy) :
    Calls Try.prog 28 #[vl c a, .int .i64 tg] w fun e w' => Nt w w' e wy := by
  obtain ⟨W0, hW0, B0, R0⟩ := vbox w c a
  have VF := hide (fun (wx : World) (hb : Below W0.heap.size W0 wx) => vcells (row_on R0 hb))
  have HB0 := hide B0
  have HS0 := hide (hS.below B0)
  have l0 : w.heap.size < W0.heap.size := R0.lt
  have FA := hide (fun (w1 : World) (h1 : Below W0.heap.size W0 w1) => far_ok (HS0.out.below h1).ob hB.bd tg)
  have RO := hide (fun (w1 : World) (h1 : Below W0.heap.size W0 w1) => rroots_ok (HS0.out.below h1) hB)
  have NE := hide (fun (w1 : World) (h1 : Below W0.heap.size W0 w1) (fa' : Option Addr) (fc : Nat) (l : List Int) (D : Nat → Int) (gD : Nat) (hL : SeesU w1 fa' l) (hW : Wd l) (hll : l.length ≤ 35184372088832) hD => nearest_ok (fc := fc) (D := D) (gD := gD) (HS0.out.below h1).ob hL hB.bd hW hll hD)
  have HBv := hide hB
  have HWL := hide hw
  have WF := hide (wf_of hw)
  have hrl := rts_len hB
  have hno := hB.bd.no
  obtain ⟨iI, hiI, hzI, hsI, hyI⟩ := infoI
  clear hS hB B0 R0 hw
  obtain ⟨ph, co, ro, aa, na, ca, ra, cr, wa, nw, cw, oa, cb, fa, nf, cf, ga, ng, cg, qa, cq, k0, k1, k2, k3⟩ := a
  simp only [vl] at FA RO NE ⊢
  simp only at hW0 VF FA RO NE
  obtain ⟨n, hn⟩ : ∃ n, c.os.length = n := ⟨_, rfl⟩
  obtain ⟨nr, hnre⟩ : ∃ nr, c.rs.length = nr := ⟨_, rfl⟩
  obtain ⟨nqz, hnqe⟩ : ∃ nq, c.qu.length = nq := ⟨_, rfl⟩
  obtain ⟨m, hm⟩ : ∃ m, (rts c).length = m := ⟨_, rfl⟩
  rw [hm] at hrl
  simp only [hn, hnre, hnqe] at hW0 VF FA RO NE hno ⊢
  have Hn := hide hn
  have Hm := hide hm
  clear hn hnre hnqe hm
  obtain ⟨c0, c1, c2, c3, c4, c5, c6, c7, c8, c9, c10, c11, c12, c13⟩ := VF.out W0 (Below.refl _ _)
  go_enter Try.func28, Try.ntmps28
  go_upto_region 2 with (go_at_call 35; refine (FA.out _ (by exact Below.refl _ _)).mono ?_; rintro e w1 ⟨D, gD, hF, rfl, hg, hr, hb⟩; have HF := hide hF; have HR1 := hide hr; have HB1 := hide hb; clear hF hr hb)
  clear hW0 FA c0 c1 c2 c3 c4 c5 c6 c7 c8 c9 c10 c11 c12 c13
  have D1 : Below W0.heap.size W0 w1.drew := ⟨HB1.out.os, HB1.out.tape, HB1.out.output, HB1.out.size, HB1.out.block⟩
  have K0 := VF.out w1.drew D1
  go_region_held (fun w' => w'.cell? ⟨w.heap.size, 0, none⟩ = some (.int .i64 ph) ∧ w'.cell? ⟨w.heap.size, 1, none⟩ = some (.int .i64 co) ∧ w'.cell? ⟨w.heap.size, 2, none⟩ = some (.int .u64 ro) ∧ w'.cell? ⟨w.heap.size, 3, none⟩ = some (.slice aa na ca) ∧ w'.cell? ⟨w.heap.size, 4, none⟩ = some (.slice ra nr cr) ∧ w'.cell? ⟨w.heap.size, 5, none⟩ = some (.slice wa nw cw) ∧ w'.cell? ⟨w.heap.size, 6, none⟩ = some (.slice oa n cb) ∧ w'.cell? ⟨w.heap.size, 7, none⟩ = some (.slice fa nf cf) ∧ w'.cell? ⟨w.heap.size, 8, none⟩ = some (.slice ga ng cg) ∧ w'.cell? ⟨w.heap.size, 9, none⟩ = some (.slice qa nqz cq) ∧ w'.cell? ⟨w.heap.size, 10, none⟩ = some (.int .u64 k0) ∧ w'.cell? ⟨w.heap.size, 11, none⟩ = some (.int .u64 k1) ∧ w'.cell? ⟨w.heap.size, 12, none⟩ = some (.int .u64 k2) ∧ w'.cell? ⟨w.heap.size, 13, none⟩ = some (.int .u64 k3)) (first | exact K0 | exact K1 | exact K2) (first
    | (go_at_call 15; refine (RO.out _ (by exact D1)).mono ?_; rintro e w2 ⟨ao2, cp2, rfl, ho, hb⟩; rw [Hm.out] at ho; (try rw [Hm.out]); have HO2 := hide ho; have B12 := hide (show Below w1.heap.size w1 w2 from ⟨hb.os, hb.tape, hb.output, hb.size, hb.block⟩); have B2 := hide (D1.trans (hb.mono D1.size)); have K1 := VF.out w2 B2.out; clear ho hb)
    | (go_at_call 36; have hne := NE.out _ (by exact B2.out) ao2 cp2 (rts c) D gD (own_seesU HO2.out) (rts_wd HBv.out) (by rw [Hm.out]; omega) (row_on HR1.out B12.out); rw [Hm.out] at hne; refine hne.mono ?_; clear hne; rintro e w3 ⟨rfl, hb⟩; have B3 := hide (B2.out.trans (hb.mono B2.out.size)); have B13 := hide (B12.out.trans (hb.mono B12.out.size)); have K2 := VF.out w3 B3.out; clear hb))
  clear K0 K1 K2 D1
  have HR3 := hide (row_on HR1.out B13.out)
  by_cases hwe : wy = []
  · have e0 := nears_none HF.out (by rw [← hwe]; exact HWL.out)
    rw [e0]
    have HWE := hide hwe
    clear hwe
    go_wp2_with fail
    go_ret
    rw [HWE.out]
    exact ⟨none, 0, rfl, ⟨rfl, .inl ⟨rfl, rfl⟩⟩, HB0.out.trans (B3.out.mono HB0.out.size)⟩
  · obtain ⟨x0, hx0⟩ : ∃ x0, wy[0]? = some x0 := by cases wy with | nil => exact absurd rfl hwe | cons x t => exact ⟨x, rfl⟩
    have e0 : (nears c.os D (rts c) : Int) = x0 := nears_way HF.out HWL.out hx0
    rw [e0]
    have p0 := WF.out.le.pos x0 (List.mem_of_getElem? hx0)
    have H0 := hide hx0
    have T0 := hide (show wy.take 1 = [x0] by rw [List.take_add_one, hx0]; rfl)
    clear hwe hx0
    obtain ⟨wl, hwl⟩ : ∃ wl, wy.length = wl := ⟨_, rfl⟩
    have Hwl := hide hwl
    have hwln : wl ≤ n := by rw [← hwl, ← Hn.out]; exact WF.out.len
    clear e0 hwl
    obtain ⟨z, hz⟩ : ∃ z, w3.heap.size = z := ⟨_, rfl⟩
    have Hz := hide hz
    have hgz : gD < z := by rw [← hz]; exact HR3.out.lt
    have hz0 : W0.heap.size ≤ z := by rw [← hz]; exact B3.out.size
    have O0 := hide (own_one w3 x0)
    rw [hz] at O0
    have BA := hide (show Below z w3 (w3.alloc (.cells #[.int .i64 x0] 3)) by rw [← hz]; exact (Below.refl _ w3).alloc (Nat.le_refl _) _)
    have nz : (x0 == 0) = false := by simp; omega
    go_wp2_with fail
    clear nz
    go_loopw [6, 7] (fun av wv wr => ∃ (i : Nat) (x : Int), wy[i]? = some x ∧ av = .int .i64 x ∧ Hid (wr.ownsRow z 3 1 wv (i + 1) (ncs (wy.take (i + 1)))) ∧ Hid (Below z w3 wr)) (fun _ wv _ => wl - lenOf wv)
    case atStart => exact ⟨0, x0, H0.out, rfl, (by show World.ownsRow _ _ _ _ _ _ _; rw [T0.out]; exact O0.out), BA.out⟩
    case round =>
      clear O0 BA H0 T0 p0
      obtain ⟨i, x, hix, rfl, HO, HB⟩ := hrel
      have hzw : z ≤ wr.heap.size := by have := HB.out.size; rw [Hz.out] at this; exact this
      have hil : i < wl := by have := (List.getElem?_eq_some_iff.1 hix).1; rw [Hwl.out] at this; exact this
      obtain ⟨la, cp, hv⟩ := own_slice HO.out
      subst hv
      by_cases hxt : x = tg
      · have LST := WF.out.last (by rw [Hwl.out]; omega)
        have hie : i = wy.length - 1 := nd_inj WF.out.nd (x := tg) (by rw [hix, hxt]) LST
        have hie2 : i + 1 = wl := by rw [Hwl.out] at hie; omega
        have TE := hide (show wy.take (i + 1) = wy from List.take_of_length_le (by rw [Hwl.out]; omega))
        rw [TE.out] at HO
        have nx : (x != tg) = false := by simp [hxt]
        clear LST hie hix
        go_wp2_with fail
        go_ret
        exact ⟨la, cp, (by rw [Hwl.out, ← hie2]; rfl), by rw [Hwl.out, ← hie2]; exact owns_low HO.out (by omega), HB0.out.trans ((B3.out.trans (HB.out.mono (by omega))).mono HB0.out.size)⟩
      · have nx : (x != tg) = true := by simp [hxt]
        have hi1 : i + 1 < wl := by
          have LST := WF.out.last (by rw [Hwl.out]; omega)
          by_cases e : i + 1 = wl
          · rw [Hwl.out, show wl - 1 = i by omega, hix] at LST
            cases LST
            exact absurd rfl hxt
          · omega
        obtain ⟨y, hy⟩ : ∃ y, wy[i + 1]? = some y := ⟨wy[i + 1]'(by rw [Hwl.out]; exact hi1), by simp [Hwl.out, hi1]⟩
        have NW : (nears c.os D (cur c.os (rts c) wy (i + 1)) : Int) = y := nears_way HF.out HWL.out hy
        obtain ⟨q, rfl, hq, _⟩ := WF.out.rch x (List.mem_of_getElem? hix)
        rw [Hn.out] at hq
        have hq2 : (q : Int) < (n : Int) := by omega
        obtain ⟨o, ho⟩ : ∃ o, c.os[q]? = some o := ⟨c.os[q]'(by rw [Hn.out]; exact hq), by simp [Hn.out, hq]⟩
        have CE : cur c.os (rts c) wy (i + 1) = o.sl := by
          simp only [cur, hix, Option.getD_some, slo]
          rw [show ((q : Int) + 1).toNat - 1 = q by omega, ho]
        rw [CE] at NW
        have hom := List.mem_of_getElem? ho
        have BX := hide (show Below W0.heap.size W0 wr from B3.out.trans (HB.out.mono hz0))
        have D1 : Below W0.heap.size W0 wr.drew := ⟨BX.out.os, BX.out.tape, BX.out.output, BX.out.size, BX.out.block⟩
        obtain ⟨b, off, ai, ci, hoa, hbl, hoc, hse⟩ := (HS0.out.below D1).ob q o ho
        simp only at hoa
        subst hoa
        have o8 := (Ob.cells9 hoc).2.2.2.2.2.2.2.2
        have HY := hide hy
        have HDR := hide (show wr.drew.rowIs gD 3 n (fun i => .int .i64 (D i)) from row_on HR3.out (show Below w3.heap.size w3 wr.drew by rw [Hz.out]; exact ⟨HB.out.os, HB.out.tape, HB.out.output, HB.out.size, HB.out.block⟩))
        have NX := hide (NE.out wr.drew D1 ai ci o.sl D gD hse (HBv.out.bd.sl o hom) (HBv.out.bd.ns o hom) HDR.out)
        rw [NW] at NX
        have K0 := VF.out wr.drew D1
        have l3 : IntKind.i64.wrap (q : Int) = (q : Int) := by rw [IntKind.wrap_i64]; omega
        obtain ⟨M, hM⟩ : ∃ M, o.sl.length = M := ⟨_, rfl⟩
        rw [hM] at o8 NX
        clear hix hy NW CE ho hom hoc hse hM
        go_upto_region 7 with (fail)
        go_region_held (fun w' => w'.cell? ⟨w.heap.size, 0, none⟩ = some (.int .i64 ph) ∧ w'.cell? ⟨w.heap.size, 1, none⟩ = some (.int .i64 co) ∧ w'.cell? ⟨w.heap.size, 2, none⟩ = some (.int .u64 ro) ∧ w'.cell? ⟨w.heap.size, 3, none⟩ = some (.slice aa na ca) ∧ w'.cell? ⟨w.heap.size, 4, none⟩ = some (.slice ra nr cr) ∧ w'.cell? ⟨w.heap.size, 5, none⟩ = some (.slice wa nw cw) ∧ w'.cell? ⟨w.heap.size, 6, none⟩ = some (.slice (some ⟨b, off, none⟩) n cb) ∧ w'.cell? ⟨w.heap.size, 7, none⟩ = some (.slice fa nf cf) ∧ w'.cell? ⟨w.heap.size, 8, none⟩ = some (.slice ga ng cg) ∧ w'.cell? ⟨w.heap.size, 9, none⟩ = some (.slice qa nqz cq) ∧ w'.cell? ⟨w.heap.size, 10, none⟩ = some (.int .u64 k0) ∧ w'.cell? ⟨w.heap.size, 11, none⟩ = some (.int .u64 k1) ∧ w'.cell? ⟨w.heap.size, 12, none⟩ = some (.int .u64 k2) ∧ w'.cell? ⟨w.heap.size, 13, none⟩ = some (.int .u64 k3) ∧ w'.cell? ⟨b, off + q * 9 + 8, none⟩ = some (.slice ai M ci)) (first | exact ⟨K0.1, K0.2.1, K0.2.2.1, K0.2.2.2.1, K0.2.2.2.2.1, K0.2.2.2.2.2.1, K0.2.2.2.2.2.2.1, K0.2.2.2.2.2.2.2.1, K0.2.2.2.2.2.2.2.2.1, K0.2.2.2.2.2.2.2.2.2.1, K0.2.2.2.2.2.2.2.2.2.2.1, K0.2.2.2.2.2.2.2.2.2.2.2.1, K0.2.2.2.2.2.2.2.2.2.2.2.2.1, K0.2.2.2.2.2.2.2.2.2.2.2.2.2, o8⟩ | exact ⟨K1.1, K1.2.1, K1.2.2.1, K1.2.2.2.1, K1.2.2.2.2.1, K1.2.2.2.2.2.1, K1.2.2.2.2.2.2.1, K1.2.2.2.2.2.2.2.1, K1.2.2.2.2.2.2.2.2.1, K1.2.2.2.2.2.2.2.2.2.1, K1.2.2.2.2.2.2.2.2.2.2.1, K1.2.2.2.2.2.2.2.2.2.2.2.1, K1.2.2.2.2.2.2.2.2.2.2.2.2.1, K1.2.2.2.2.2.2.2.2.2.2.2.2.2, o8'⟩) ((go_at_call 36; refine NX.out.mono ?_; rintro e w5 ⟨rfl, hb⟩; have HB5 := hide hb; have K1 := VF.out w5 (D1.trans (hb.mono D1.size)); have o8' : w5.cell? ⟨b, off + q * 9 + 8, none⟩ = some (.slice ai M ci) := (hb.cell (p := ⟨b, off + q * 9 + 8, none⟩) hbl).trans o8; clear hb))
        have D2 : Below wr.heap.size wr w5 := ⟨HB5.out.os, HB5.out.tape, HB5.out.output, HB5.out.size, HB5.out.block⟩
        have HBr := hide (show Below z w3 w5 from HB.out.trans (D2.mono hzw))
        have hzw5 : z ≤ w5.heap.size := by have := D2.size; omega
        have O3 := hide (show (w5.alloc (.cells #[.int .i64 y] 3)).ownsRow z 3 1 (.slice la (i + 1) cp) (i + 1) (ncs (wy.take (i + 1))) from owns_on (owns_on HO.out D2) ((Below.refl _ w5).alloc (Nat.le_refl _) _))
        clear K0 K1 o8 o8' D1 D2 l3 nx
        go_wp2_with (at_builtin; refine wpList_append_own_at _ rfl (.tmp 33) (.tmp 35) 26 rfl z 3 iI (.int .i64 0) 1 8 Try.underlying26 hiI hzI hsI hyI rfl (by decide) (.slice la (i + 1) cp) (i + 1) (ncs (wy.take (i + 1))) rfl O3.out ⟨w5.heap.size, 0, none⟩ 1 1 (ncs [y]) rfl rfl (fun j v hj => by rw [Go.WideShapes.add_plain]; have hj1 : j < 1 := (by have := (List.getElem?_eq_some_iff.1 hj).1; simpa [ncs] using this); (obtain rfl : j = 0 := (by omega)); simp [ncs] at hj; rw [← hj]; simp) (ncs_one _) (by unfold maxLen; omega) (by omega) (by simp; omega) ?_; intro v2 w2 hown hgr _ _; obtain ⟨la3, cp3, rfl⟩ := own_slice hown; have HO4 := hide hown; have HB4 := hide (below_grown (HBr.out.alloc hzw5 (.cells #[.int .i64 (y)] 3)) O3.out hgr (by simp; omega)); clear hown hgr)
        go_roundw
        case rel =>
          refine ⟨i + 1, y, HY.out, rfl, ?_, HB4.out⟩
          show World.ownsRow _ _ _ _ _ _ _
          rw [List.take_add_one, HY.out]
          simp only [Option.toList]
          rw [ncs_app]
          exact HO4.out
        case measure => simp [lenOf]; omega
end Gr
end Go.Proofs.Ytakgidhblkjjbaa
