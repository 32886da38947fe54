/-
  Graph: the document's Live, Dead, Held
-/
import Derived.Test.YtlbcjolbgeficaaGrRc
import Derived.Test.YtlbcjolbgeficaaGrH
namespace Go.Proofs.Ytlbcjolbgeficaa
open Go.RowKit
set_option linter.unusedVariables false
set_option linter.unusedSimpArgs false
set_option linter.unnecessarySimpa false
set_option maxRecDepth 20000
namespace Gr
set_option maxHeartbeats 4000000 in
theorem rlive_ok {c : Vc} {a : Av} {w : World} (hS : Shows w c a) (hB : Bv c) : Calls Try.prog 19 #[vl c a] w fun e w' => Bt w w' e c.os.length (rb c.os (rts c)) := by
  obtain ⟨m, hm⟩ : ∃ m, (rts c).length = m := ⟨_, rfl⟩
  have Hm := hide hm
  obtain ⟨W0, hW0, B0, R0⟩ := vbox w c a
  have VF := hide (fun (wx : World) (hb : Below W0.heap.size W0 wx) => vcells (row_on R0 hb))
  have HB0 := hide B0
  have HS0 := hide (hS.below B0)
  have l0 : w.heap.size < W0.heap.size := R0.lt
  have HBv := hide hB
  have RO := hide (fun (w1 : World) (h1 : Shows w1 c a) => rroots_ok h1 hB)
  have RE := hide (fun (w1 : World) (h1 : Shows w1 c a) (ao : Option Addr) (cp : Nat) (h2 : SeesU w1 ao (rts c)) => rreach_ok (fc := cp) h1.ob h2 hB.bd (rts_wd hB) (by have := rts_len hB; omega))
  have hno := hB.bd.no
  clear hS hB B0 R0
  obtain ⟨ph, co, ro, aa, na, ca, ra, cr, wa, nw, cw, oa, cb, fa, nf, cf, ga, ng, cg, qa, cq, k0, k1, k2, k3⟩ := a
  simp only [vl] at RO RE ⊢
  simp only at hW0 VF RO RE
  obtain ⟨n, hn⟩ : ∃ n, c.os.length = n := ⟨_, rfl⟩
  obtain ⟨nr, hnre⟩ : ∃ nr, c.rs.length = nr := ⟨_, rfl⟩
  obtain ⟨nq, hnqe⟩ : ∃ nq, c.qu.length = nq := ⟨_, rfl⟩
  simp only [hn, hnre, hnqe] at hW0 VF RO RE ⊢
  rw [hn] at hno
  have Hn := hide hn
  have Hnr := hide hnre
  have Hnq := hide hnqe
  clear hn hnre hnqe
  have D0 : Below W0.heap.size W0 W0.drew := ⟨rfl, rfl, rfl, Nat.le_refl _, fun _ _ => rfl⟩
  rw [hm] at RE
  clear hm
  have K0 := VF.out W0.drew D0
  go_enter Try.func19, Try.ntmps19
  go_upto_region 1 with (fail)
  go_region_held (fun w' => w'.cell? ⟨w.heap.size, 0, none⟩ = some (.int .i64 ph) ∧ w'.cell? ⟨w.heap.size, 1, none⟩ = some (.int .i64 co) ∧ w'.cell? ⟨w.heap.size, 2, none⟩ = some (.int .u64 ro) ∧ w'.cell? ⟨w.heap.size, 3, none⟩ = some (.slice aa na ca) ∧ w'.cell? ⟨w.heap.size, 4, none⟩ = some (.slice ra nr cr) ∧ w'.cell? ⟨w.heap.size, 5, none⟩ = some (.slice wa nw cw) ∧ w'.cell? ⟨w.heap.size, 6, none⟩ = some (.slice oa n cb) ∧ w'.cell? ⟨w.heap.size, 7, none⟩ = some (.slice fa nf cf) ∧ w'.cell? ⟨w.heap.size, 8, none⟩ = some (.slice ga ng cg) ∧ w'.cell? ⟨w.heap.size, 9, none⟩ = some (.slice qa nq cq) ∧ w'.cell? ⟨w.heap.size, 10, none⟩ = some (.int .u64 k0) ∧ w'.cell? ⟨w.heap.size, 11, none⟩ = some (.int .u64 k1) ∧ w'.cell? ⟨w.heap.size, 12, none⟩ = some (.int .u64 k2) ∧ w'.cell? ⟨w.heap.size, 13, none⟩ = some (.int .u64 k3)) (first | exact K0 | exact K2 | exact K1) (first
    | (go_at_call 17; refine (RO.out _ (by exact HS0.out.below D0)).mono ?_; rintro e w1 ⟨ao, cp, rfl, ho, hb⟩; rw [Hm.out] at ho; (try rw [Hm.out]); have HO := hide ho; have HB := hide (D0.trans hb); have K1 := VF.out w1 HB.out; have RX := hide (RE.out w1 (HS0.out.below HB.out) ao cp (own_seesU ho)); clear ho hb)
    | (go_at_call 16; refine RX.out.mono ?_; rintro e w2 ⟨g, rfl, hg, hr, hb⟩; have HR := hide hr; have HB2 := hide hb; have K2 := VF.out w2 (HB.out.trans (HB2.out.mono HB.out.size)); clear hr hb))
  go_wp2_with fail
  go_ret
  exact Bt.lift ⟨g, rfl, hg, HR.out, HB2.out⟩ (HB0.out.trans (HB.out.mono HB0.out.size))

set_option maxHeartbeats 4000000 in
theorem rdead_ok {c : Vc} {a : Av} {w : World} (hS : Shows w c a) (hB : Bv c) : Calls Try.prog 21 #[vl c a] w fun e w' => Nt w w' e (dd c) := by
  obtain ⟨W0, hW0, B0, R0⟩ := vbox w c a
  have VF := hide (fun (wx : World) (hb : Below W0.heap.size W0 wx) => vcells (row_on R0 hb))
  have HB0 := hide B0
  have HS0 := hide (hS.below B0)
  have l0 : w.heap.size < W0.heap.size := R0.lt
  have HBv := hide hB
  have LI := hide (fun (w1 : World) (h1 : Shows w1 c a) => rlive_ok h1 hB)
  have hno := hB.bd.no
  clear hS hB B0 R0
  obtain ⟨ph, co, ro, aa, na, ca, ra, cr, wa, nw, cw, oa, cb, fa, nf, cf, ga, ng, cg, qa, cq, k0, k1, k2, k3⟩ := a
  simp only [vl] at LI ⊢
  simp only at hW0 VF LI
  obtain ⟨n, hn⟩ : ∃ n, c.os.length = n := ⟨_, rfl⟩
  obtain ⟨nr, hnre⟩ : ∃ nr, c.rs.length = nr := ⟨_, rfl⟩
  obtain ⟨nq, hnqe⟩ : ∃ nq, c.qu.length = nq := ⟨_, rfl⟩
  simp only [hn, hnre, hnqe] at hW0 VF LI ⊢
  rw [hn] at hno
  have Hn := hide hn
  have Hnr := hide hnre
  have Hnq := hide hnqe
  clear hn hnre hnqe
  have D0 : Below W0.heap.size W0 W0.drew := ⟨rfl, rfl, rfl, Nat.le_refl _, fun _ _ => rfl⟩
  obtain ⟨iI, hiI, hzI, hsI, hyI⟩ := infoI
  obtain ⟨c0, c1, c2, c3, c4, c5, c6, c7, c8, c9, c10, c11, c12, c13⟩ := VF.out W0 (Below.refl _ _)
  go_enter Try.func21, Try.ntmps21
  go_upto_region 2 with (go_at_call 19; refine (LI.out _ (by exact HS0.out)).mono ?_; rintro e w1 ⟨g, rfl, hg, hr, hb⟩; have HR := hide hr; have HB1 := hide hb; clear hr hb)
  clear hW0 c0 c1 c2 c3 c4 c5 c6 c7 c8 c9 c10 c11 c12 c13
  obtain ⟨z, hz⟩ : ∃ z, w1.heap.size = z := ⟨_, rfl⟩
  have Hz := hide hz
  have hgz : g < z := by rw [← hz]; exact HR.out.lt
  clear hz
  go_wp2_with fail
  go_loopw [4, 5] (fun v i wr => ∃ (k : Nat), k ≤ n ∧ i = .int .i64 k ∧ Hid (wr.ownsRow z 3 1 v (ddk c k).length (ncs (ddk c k))) ∧ Hid (Below z w1 wr)) (fun _ i _ => n - (intOf i).toNat)
  case atStart => exact ⟨0, Nat.zero_le _, rfl, ⟨rfl, .inl ⟨rfl, rfl⟩⟩, by show Below z w1 w1; exact Below.refl _ _⟩
  case round =>
    obtain ⟨k, hk, rfl, HO, HB⟩ := hrel
    obtain ⟨la, cp, rfl⟩ := own_slice HO.out
    have hzw : z ≤ wr.heap.size := by have := HB.out.size; rw [Hz.out] at this; exact this
    have BW := hide (show Below W0.heap.size W0 wr from HB1.out.trans (HB.out.mono (by rw [← Hz.out]; exact HB1.out.size)))
    have HRr := hide (row_on HR.out (show Below w1.heap.size w1 wr by rw [Hz.out]; exact HB.out))
    have c6 := (VF.out wr BW.out).2.2.2.2.2.2.1
    by_cases hlt : k < n
    · have hkn : (k : Int) < (n : Int) := by omega
      obtain ⟨o, ho⟩ : ∃ o, c.os[k]? = some o := ⟨c.os[k]'(by rw [Hn.out]; exact hlt), by simp [Hn.out, hlt]⟩
      obtain ⟨b, off, ai, ci, hoa, hbl, hoc, hse⟩ := (HS0.out.below BW.out).ob k o ho
      simp only at hoa
      subst hoa
      have o0 := (Ob.cells9 hoc).1
      have r0 := HRr.out.cell hlt
      have LN : (ddk c k).length ≤ k := ddk_len c k
      have ST := hide (ddk_step c k)
      have DP := hide (show ddp c k = (o.us && !rb c.os (rts c) k) by simp [ddp, usA, ho])
      obtain ⟨bv, hbv⟩ : ∃ bv, rb c.os (rts c) k = bv := ⟨_, rfl⟩
      obtain ⟨ov, hov⟩ : ∃ ov, o.us = ov := ⟨_, rfl⟩
      rw [hbv] at r0 DP
      rw [hov] at o0 DP
      obtain ⟨l, hl⟩ : ∃ l, ddk c k = l := ⟨_, rfl⟩
      rw [hl] at HO LN ST ⊢
      have HL := hide hl
      obtain ⟨ln, hln⟩ : ∃ ln, l.length = ln := ⟨_, rfl⟩
      rw [hln] at HO LN ⊢
      have HLn := hide hln
      clear hoc hse ho hbv hov hl hln
      have skip : ¬ (ov = true ∧ bv = false) → Hid (wr.ownsRow z 3 1 (.slice la ln cp) (ddk c (k + 1)).length (ncs (ddk c (k + 1)))) := by
        intro h
        have e : ddk c (k + 1) = l := by
          rw [ST.out, DP.out]
          cases ov <;> cases bv <;> simp at h ⊢
        show World.ownsRow _ _ _ _ _ _ _
        rw [e, HLn.out]
        exact HO.out
      have SK := hide skip
      clear skip
      cases ov
      · have SX := hide (SK.out (by simp))
        go_wp2_with fail
        go_roundw
        case rel => exact ⟨k + 1, by omega, by go_num, SX.out, HB.out⟩
        case measure => simp [intOf]; omega
      · cases bv
        · have O3 := hide (show (wr.alloc (.cells #[.int .i64 ((k : Int) + 1)] 3)).ownsRow z 3 1 (.slice la ln cp) ln (ncs l) from owns_on HO.out ((Below.refl _ wr).alloc (Nat.le_refl _) _))
          go_wp2_with (at_builtin; refine wpList_append_own_at _ rfl (.tmp 28) (.tmp 31) 26 rfl z 3 iI (.int .i64 0) 1 8 Try.underlying26 hiI hzI hsI hyI rfl (by decide) (.slice la ln cp) ln (ncs l) rfl O3.out ⟨wr.heap.size, 0, none⟩ 1 1 (ncs [(k : Int) + 1]) rfl rfl (fun j v hj => by rw [Go.WideShapes.add_plain]; have hj1 : j < 1 := (by have := (List.getElem?_eq_some_iff.1 hj).1; simpa [ncs] using this); (obtain rfl : j = 0 := (by omega)); simp [ncs] at hj; rw [← hj]; simp) (ncs_one _) (by unfold maxLen; omega) (by omega) (by simp; omega) ?_; intro v2 w2 hown hgr _ _; obtain ⟨la3, cp3, rfl⟩ := own_slice hown; have HO4 := hide hown; have HB4 := hide (below_grown (HB.out.alloc hzw (.cells #[.int .i64 ((k : Int) + 1)] 3)) O3.out hgr (by simp; omega)); clear hown hgr)
          go_roundw
          case rel =>
            refine ⟨k + 1, by omega, by go_num, ?_, HB4.out⟩
            have e : ddk c (k + 1) = l ++ [(k : Int) + 1] := by rw [ST.out, DP.out]; rfl
            show World.ownsRow _ _ _ _ _ _ _
            rw [e, ncs_snoc, List.length_append, HLn.out]
            exact HO4.out
          case measure => simp [intOf]; omega
        · have SX := hide (SK.out (by simp))
          go_wp2_with fail
          go_roundw
          case rel => exact ⟨k + 1, by omega, by go_num, SX.out, HB.out⟩
          case measure => simp [intOf]; omega
    · have hkn : ¬ (k : Int) < (n : Int) := by omega
      have HE := hide (show ddk c k = dd c by unfold dd; rw [Hn.out]; congr 1; omega)
      go_wp2_with fail
      go_ret
      rw [← HE.out]
      exact ⟨_, _, rfl, owns_low HO.out (by rw [← Hz.out]; exact Nat.le_trans HB0.out.size HB1.out.size), HB0.out.trans (BW.out.mono HB0.out.size)⟩

set_option maxHeartbeats 8000000 in
theorem rheld_ok {c : Vc} {a : Av} {w : World} (hS : Shows w c a) (hB : Bv c) : Calls Try.prog 18 #[vl c a] w fun e w' => Bt w w' e c.os.length (rb c.os (hls c)) := by
  obtain ⟨m, hm⟩ : ∃ m, (hls c).length = m := ⟨_, rfl⟩
  have Hm := hide hm
  obtain ⟨W0, hW0, B0, R0⟩ := vbox w c a
  have VF := hide (fun (wx : World) (hb : Below W0.heap.size W0 wx) => vcells (row_on R0 hb))
  have HB0 := hide B0
  have HS0 := hide (hS.below B0)
  have l0 : w.heap.size < W0.heap.size := R0.lt
  have HBv := hide hB
  have DE := hide (fun (w1 : World) (h1 : Shows w1 c a) => rdead_ok h1 hB)
  have HA := hide (fun (w1 : World) (h1 : Sob w1 a.oa c.os) (q : Nat) (o : Ob) (h : c.os[q]? = some o) => rhandle_ok h1 hB.bd.no h)
  have RE := hide (fun (w1 : World) (h1 : Shows w1 c a) (ao : Option Addr) (cp : Nat) (h2 : SeesU w1 ao (hls c)) => rreach_ok (fc := cp) h1.ob h2 hB.bd (hls_wd c) (by have := hls_len c; have := hB.bd.no; omega))
  have hno := hB.bd.no
  clear hS hB B0 R0
  obtain ⟨ph, co, ro, aa, na, ca, ra, cr, wa, nw, cw, oa, cb, fa, nf, cf, ga, ng, cg, qa, cq, k0, k1, k2, k3⟩ := a
  simp only [vl] at DE HA RE ⊢
  simp only at hW0 VF DE HA RE
  obtain ⟨n, hn⟩ : ∃ n, c.os.length = n := ⟨_, rfl⟩
  obtain ⟨nr, hnre⟩ : ∃ nr, c.rs.length = nr := ⟨_, rfl⟩
  obtain ⟨nq, hnqe⟩ : ∃ nq, c.qu.length = nq := ⟨_, rfl⟩
  simp only [hn, hnre, hnqe] at hW0 VF DE HA RE ⊢
  rw [hn] at hno
  have Hn := hide hn
  have Hnr := hide hnre
  have Hnq := hide hnqe
  clear hn hnre hnqe
  have D0 : Below W0.heap.size W0 W0.drew := ⟨rfl, rfl, rfl, Nat.le_refl _, fun _ _ => rfl⟩
  rw [hm] at RE
  clear hm
  obtain ⟨c0, c1, c2, c3, c4, c5, c6, c7, c8, c9, c10, c11, c12, c13⟩ := VF.out W0 (Below.refl _ _)
  obtain ⟨nd, hnd⟩ : ∃ nd, (dd c).length = nd := ⟨_, rfl⟩
  have hndn : nd ≤ n := by rw [← hnd, ← Hn.out]; exact ddk_len c _
  have Hnd := hide hnd
  clear hnd
  go_enter Try.func18, Try.ntmps18
  go_upto_region 2 with (go_at_call 21; refine (DE.out _ (by exact HS0.out)).mono ?_; rintro e w1 ⟨ao, cq2, rfl, hr, hb⟩; rw [Hnd.out] at hr; (try rw [Hnd.out]); have HR := hide hr; have HB1 := hide hb; clear hr hb)
  clear hW0 c0 c1 c2 c3 c4 c5 c6 c7 c8 c9 c10 c11 c12 c13
  obtain ⟨z, hz⟩ : ∃ z, w1.heap.size = z := ⟨_, rfl⟩
  have Hz := hide hz
  have hWz : W0.heap.size ≤ z := by rw [← hz]; exact HB1.out.size
  clear hz
  go_wp2_with fail
  go_loopw [4, 5] (fun v i wr => ∃ (k : Nat), k ≤ nd ∧ i = .int .i64 k ∧ Hid (wr.ownsRow z 22 1 v (hlk c k).length (ucs (hlk c k))) ∧ Hid (Below z w1 wr)) (fun _ i _ => nd - (intOf i).toNat)
  case atStart => exact ⟨0, Nat.zero_le _, rfl, ⟨rfl, .inl ⟨rfl, rfl⟩⟩, by show Below z w1 w1; exact Below.refl _ _⟩
  case round =>
    obtain ⟨k, hk, rfl, HO, HB⟩ := hrel
    obtain ⟨la, cp, rfl⟩ := own_slice HO.out
    have hzw : z ≤ wr.heap.size := by have := HB.out.size; rw [Hz.out] at this; exact this
    have BW := hide (show Below W0.heap.size W0 wr from HB1.out.trans (HB.out.mono hWz))
    by_cases hlt : k < nd
    · have hkn : (k : Int) < (nd : Int) := by omega
      obtain ⟨x, hx⟩ : ∃ x, (dd c)[k]? = some x := ⟨(dd c)[k]'(by rw [Hnd.out]; exact hlt), by simp [Hnd.out, hlt]⟩
      obtain ⟨q, rfl, hq, _⟩ := dd_mem (List.mem_of_getElem? hx)
      obtain ⟨b1, off1, hao, hb1l, hcx0⟩ := own_seesN HR.out k _ hx
      subst hao
      have CX := hide (fun (wx : World) (hb : Below z w1 wx) => (hb.cell (p := ⟨b1, off1 + k, none⟩) (by rw [← Hz.out]; exact hb1l)).trans hcx0)
      have hqn : (q : Int) < (n : Int) := by rw [Hn.out] at hq; omega
      have hqn' : q < n := by omega
      obtain ⟨o, ho⟩ : ∃ o, c.os[q]? = some o := ⟨c.os[q], by simp [hq]⟩
      obtain ⟨b, off, ai, ci, hoa, hbl, hoc, hse⟩ := HS0.out.ob q o ho
      simp only at hoa
      subst hoa
      have OC := hide (fun (wx : World) (hb : Below W0.heap.size W0 wx) => Ob.cells9 (w := wx) (b := b) (p := off + q * 9) (o := o) (sv := .slice ai o.sl.length ci) (fun j hj => (hb.cell (p := ⟨b, off + q * 9 + j, none⟩) hbl).trans (hoc j hj)))
      have LN : (hlk c k).length ≤ k := hlk_len c k
      have ST := hide (hlk_step c hx)
      have FX := hide (show fx c.os ((q : Int) + 1) = (o.fi && !o.ta) by
        have e : ((q : Int) + 1).toNat - 1 = q := by omega
        simp only [fx, e, ho])
      have HO2 := hide (hof_at ho)
      have SH := HS0.out.below BW.out
      have HAN := hide (fun (w1 : World) (hb : Below wr.heap.size wr w1) => HA.out w1 (SH.below hb).ob q o ho)
      obtain ⟨u, hu⟩ : ∃ u, hd ((q : Int) + 1) o.ge = u := ⟨_, rfl⟩
      rw [hu] at HO2 HAN
      obtain ⟨us, li, fi, ta, ag, ge, lk, nx, sl⟩ := o
      simp only at OC FX
      obtain ⟨l, hl⟩ : ∃ l, hlk c k = l := ⟨_, rfl⟩
      rw [hl] at HO LN ST ⊢
      have HL := hide hl
      obtain ⟨ln, hln⟩ : ∃ ln, l.length = ln := ⟨_, rfl⟩
      rw [hln] at HO LN ⊢
      have HLn := hide hln
      clear hoc hse ho hu hl hln hx SH hcx0
      obtain ⟨WD, hWD⟩ : ∃ WD, wr.drew = WD := ⟨_, rfl⟩
      have D1 : Below wr.heap.size wr WD := by rw [← hWD]; exact ⟨rfl, rfl, rfl, Nat.le_refl _, fun _ _ => rfl⟩
      obtain ⟨W4, hW4, B4, R4⟩ := obox WD us li fi ta ag ge lk nx ai sl.length ci
      have sWD : WD.heap.size = wr.heap.size := by rw [← hWD]; rfl
      have HB4 := hide (D1.trans (B4.mono (by rw [sWD]; exact Nat.le_refl _)))
      have p2 : W4.cell? ⟨WD.heap.size, 2, none⟩ = some (.bool fi) := R4.cell (i := 2) (by decide)
      have p3 : W4.cell? ⟨WD.heap.size, 3, none⟩ = some (.bool ta) := R4.cell (i := 3) (by decide)
      rw [sWD] at p2 p3
      have s4 : wr.heap.size ≤ W4.heap.size := HB4.out.size
      have skip : ¬ (fi = true ∧ ta = false) → Hid (W4.ownsRow z 22 1 (.slice la ln cp) (hlk c (k + 1)).length (ucs (hlk c (k + 1)))) := by
        intro h
        have e : hlk c (k + 1) = l := by
          rw [ST.out, FX.out]
          cases fi <;> cases ta <;> simp at h ⊢
        show World.ownsRow _ _ _ _ _ _ _
        rw [e, HLn.out]
        exact owns_on HO.out HB4.out
      have SK := hide skip
      have HBz := hide (HB.out.trans (HB4.out.mono hzw))
      have BW4 := hide (show Below W0.heap.size W0 W4 from BW.out.trans (HB4.out.mono BW.out.size))
      have HW4 := hide hW4
      have HWD := hide hWD
      have SF := fun (wx : World) (hb : Below wr.heap.size wr wx) => And.intro (VF.out wx (BW.out.trans (hb.mono BW.out.size))).2.2.2.2.2.2.1 (And.intro (CX.out wx (HB.out.trans (hb.mono hzw))) (OC.out wx (BW.out.trans (hb.mono BW.out.size))))
      have KS := SF wr.drew ⟨rfl, rfl, rfl, Nat.le_refl _, fun _ _ => rfl⟩
      have KA := hide (fun (ob : Obj) => SF (wr.alloc ob).drew (have h := (Below.refl wr.heap.size wr).alloc (Nat.le_refl _) ob; ⟨h.os, h.tape, h.output, h.size, h.block⟩))
      have l3 : IntKind.i64.wrap (q : Int) = (q : Int) := by rw [IntKind.wrap_i64]; omega
      clear skip R4 B4 hW4 hWD SF
      go_upto_region 6 with (fail)
      go_region_held (fun w' => w'.cell? ⟨w.heap.size, 6, none⟩ = some (.slice (some ⟨b, off, none⟩) n cb) ∧ w'.cell? ⟨b1, off1 + k, none⟩ = some (.int .i64 ((q : Int) + 1)) ∧ w'.cell? ⟨b, off + q * 9, none⟩ = some (.bool us) ∧ w'.cell? ⟨b, off + q * 9 + 1, none⟩ = some (.bool li) ∧ w'.cell? ⟨b, off + q * 9 + 2, none⟩ = some (.bool fi) ∧ w'.cell? ⟨b, off + q * 9 + 3, none⟩ = some (.bool ta) ∧ w'.cell? ⟨b, off + q * 9 + 4, none⟩ = some (.int .i64 ag) ∧ w'.cell? ⟨b, off + q * 9 + 5, none⟩ = some (.int .u64 ge) ∧ w'.cell? ⟨b, off + q * 9 + 6, none⟩ = some (.int .u64 lk) ∧ w'.cell? ⟨b, off + q * 9 + 7, none⟩ = some (.int .u64 nx) ∧ w'.cell? ⟨b, off + q * 9 + 8, none⟩ = some (.slice ai sl.length ci)) (first | exact KS | exact KA.out _) (fail)
      have hEq : (wr.alloc (.cells #[.bool us, .bool li, .bool fi, .bool ta, .int .i64 ag, .int .u64 ge, .int .u64 lk, .int .u64 nx, .slice ai sl.length ci] 41)).drew = W4 := by rw [← HW4.out, ← HWD.out]; rfl
      simp only [hEq]
      clear hEq KS KA l3 HW4 HWD D1 sWD
      cases fi
      · have SX := hide (SK.out (by simp))
        go_wp2_with fail
        go_roundw
        case rel => exact ⟨k + 1, by omega, by go_num, SX.out, HBz.out⟩
        case measure => simp [intOf]; omega
      · cases ta
        · have HO4 := hide (owns_on HO.out HB4.out)
          go_upto_region 8 with (fail)
          obtain ⟨WE, hWE⟩ : ∃ WE, W4.drew = WE := ⟨_, rfl⟩
          have D2 : Below wr.heap.size wr WE := by rw [← hWE]; exact ⟨HB4.out.os, HB4.out.tape, HB4.out.output, HB4.out.size, HB4.out.block⟩
          have K0 := VF.out WE (BW.out.trans (D2.mono BW.out.size))
          have x0 := CX.out WE (HB.out.trans (D2.mono hzw))
          have HAN5 := hide (HAN.out WE D2)
          have HO5 := hide (show WE.ownsRow z 22 1 (.slice la ln cp) ln (ucs l) by rw [← hWE]; exact HO4.out)
          have hzE : wr.heap.size ≤ WE.heap.size := D2.size
          rw [← hWE] at K0 x0 HAN5
          have DE2 := hide D2
          have HWE := hide hWE
          clear D2 hWE p2 p3
          go_region_held_law (fun w' => w'.cell? ⟨w.heap.size, 0, none⟩ = some (.int .i64 ph) ∧ w'.cell? ⟨w.heap.size, 1, none⟩ = some (.int .i64 co) ∧ w'.cell? ⟨w.heap.size, 2, none⟩ = some (.int .u64 ro) ∧ w'.cell? ⟨w.heap.size, 3, none⟩ = some (.slice aa na ca) ∧ w'.cell? ⟨w.heap.size, 4, none⟩ = some (.slice ra nr cr) ∧ w'.cell? ⟨w.heap.size, 5, none⟩ = some (.slice wa nw cw) ∧ w'.cell? ⟨w.heap.size, 6, none⟩ = some (.slice (some ⟨b, off, none⟩) n cb) ∧ w'.cell? ⟨w.heap.size, 7, none⟩ = some (.slice fa nf cf) ∧ w'.cell? ⟨w.heap.size, 8, none⟩ = some (.slice ga ng cg) ∧ w'.cell? ⟨w.heap.size, 9, none⟩ = some (.slice qa nq cq) ∧ w'.cell? ⟨w.heap.size, 10, none⟩ = some (.int .u64 k0) ∧ w'.cell? ⟨w.heap.size, 11, none⟩ = some (.int .u64 k1) ∧ w'.cell? ⟨w.heap.size, 12, none⟩ = some (.int .u64 k2) ∧ w'.cell? ⟨w.heap.size, 13, none⟩ = some (.int .u64 k3) ∧ w'.cell? ⟨b1, off1 + k, none⟩ = some (.int .i64 ((q : Int) + 1))) (first | exact ⟨K0.1, K0.2.1, K0.2.2.1, K0.2.2.2.1, K0.2.2.2.2.1, K0.2.2.2.2.2.1, K0.2.2.2.2.2.2.1, K0.2.2.2.2.2.2.2.1, K0.2.2.2.2.2.2.2.2.1, K0.2.2.2.2.2.2.2.2.2.1, K0.2.2.2.2.2.2.2.2.2.2.1, K0.2.2.2.2.2.2.2.2.2.2.2.1, K0.2.2.2.2.2.2.2.2.2.2.2.2.1, K0.2.2.2.2.2.2.2.2.2.2.2.2.2, x0⟩ | exact ⟨K1.1, K1.2.1, K1.2.2.1, K1.2.2.2.1, K1.2.2.2.2.1, K1.2.2.2.2.2.1, K1.2.2.2.2.2.2.1, K1.2.2.2.2.2.2.2.1, K1.2.2.2.2.2.2.2.2.1, K1.2.2.2.2.2.2.2.2.2.1, K1.2.2.2.2.2.2.2.2.2.2.1, K1.2.2.2.2.2.2.2.2.2.2.2.1, K1.2.2.2.2.2.2.2.2.2.2.2.2.1, K1.2.2.2.2.2.2.2.2.2.2.2.2.2, x1⟩ | exact ⟨K2.1, K2.2.1, K2.2.2.1, K2.2.2.2.1, K2.2.2.2.2.1, K2.2.2.2.2.2.1, K2.2.2.2.2.2.2.1, K2.2.2.2.2.2.2.2.1, K2.2.2.2.2.2.2.2.2.1, K2.2.2.2.2.2.2.2.2.2.1, K2.2.2.2.2.2.2.2.2.2.2.1, K2.2.2.2.2.2.2.2.2.2.2.2.1, K2.2.2.2.2.2.2.2.2.2.2.2.2.1, K2.2.2.2.2.2.2.2.2.2.2.2.2.2, x2⟩ | exact ⟨K3.1, K3.2.1, K3.2.2.1, K3.2.2.2.1, K3.2.2.2.2.1, K3.2.2.2.2.2.1, K3.2.2.2.2.2.2.1, K3.2.2.2.2.2.2.2.1, K3.2.2.2.2.2.2.2.2.1, K3.2.2.2.2.2.2.2.2.2.1, K3.2.2.2.2.2.2.2.2.2.2.1, K3.2.2.2.2.2.2.2.2.2.2.2.1, K3.2.2.2.2.2.2.2.2.2.2.2.2.1, K3.2.2.2.2.2.2.2.2.2.2.2.2.2, x3⟩) (first
            | (go_at_call 27; refine HAN5.out.mono ?_; rintro e w6 ⟨rfl, hb6⟩; have HB6 := hide (show Below WE.heap.size WE w6 by rw [← HWE.out]; exact hb6); have Z6 := hide (DE2.out.trans (HB6.out.mono hzE)); have K1 := VF.out w6 (BW.out.trans (Z6.out.mono BW.out.size)); have x1 := CX.out w6 (HB.out.trans (Z6.out.mono hzw)); have O6 := hide (show (w6.alloc (.cells #[.int .u64 u] 22)).ownsRow z 22 1 (.slice la ln cp) ln (ucs l) from owns_on (owns_on HO5.out HB6.out) ((Below.refl _ w6).alloc (Nat.le_refl _) _)); have A6 := hide (show Below wr.heap.size wr (w6.alloc (.cells #[.int .u64 u] 22)) from Z6.out.alloc (Nat.le_trans hzE HB6.out.size) _); have K2 := VF.out _ (BW.out.trans (A6.out.mono BW.out.size)); have x2 := CX.out _ (HB.out.trans (A6.out.mono hzw)); have hz6 : wr.heap.size ≤ w6.heap.size := Nat.le_trans hzE HB6.out.size; clear hb6)
            | (refine step_append_at rfl (.tmp 31) (.tmp 38) 23 rfl z 22 (.int .u64 0) 1 8 Try.underlying23 infoUz rfl (by decide) (.slice la ln cp) ln (ucs l) (by simp [Act.eval, Act.put]) O6.out ⟨w6.heap.size, 0, none⟩ 1 1 (ucs [u]) (by simp [Act.eval, Act.put]) rfl (fun j v hj => by rw [Go.WideShapes.add_plain]; have hj1 : j < 1 := (by have := (List.getElem?_eq_some_iff.1 hj).1; simpa [ucs] using this); (obtain rfl : j = 0 := (by omega)); simp [ucs] at hj; rw [← hj]; simp) (ucs_one _) (by unfold maxLen; omega) (by omega) (by simp; omega) ?_; intro v2 w2 hown hgr _; obtain ⟨la3, cp3, rfl⟩ := own_slice hown; have HO9 := hide hown; have HB9 := hide (below_grown (HB.out.trans (A6.out.mono hzw)) O6.out hgr (by simp; omega)); have K3 := VF.out w2 (HB1.out.trans (HB9.out.mono hWz)); have x3 := CX.out w2 HB9.out; clear hown hgr))
          (try simp only [Act.put, List.setIfInBounds_toArray, List.set_cons_succ, List.set_cons_zero])
          go_wp2_with fail
          go_roundw
          case rel =>
            refine ⟨k + 1, by omega, by go_num, ?_, HB9.out⟩
            have e : hlk c (k + 1) = l ++ [u] := by rw [ST.out, FX.out, HO2.out]; rfl
            show World.ownsRow _ _ _ _ _ _ _
            rw [e, ucs_snoc, List.length_append, HLn.out]
            exact HO9.out
          case measure => simp [intOf]; omega
        · have SX := hide (SK.out (by simp))
          go_wp2_with fail
          go_roundw
          case rel => exact ⟨k + 1, by omega, by go_num, SX.out, HBz.out⟩
          case measure => simp [intOf]; omega
    · have hkn : ¬ (k : Int) < (nd : Int) := by omega
      have HE := hide (show hlk c k = hls c by
        unfold hlk hls
        rw [List.take_of_length_le (by rw [Hnd.out]; omega)])
      rw [HE.out, Hm.out] at HO
      obtain ⟨c0, c1, c2, c3, c4, c5, c6, c7, c8, c9, c10, c11, c12, c13⟩ := VF.out wr BW.out
      have RX := hide (RE.out wr (HS0.out.below BW.out) la cp (own_seesU HO.out))
      have HMM := hide (show (hlk c k).length = m by rw [HE.out]; exact Hm.out)
      rw [HMM.out]
      go_wp2_with (go_at_call 16; refine RX.out.mono ?_; rintro e w2 ⟨g, rfl, hg, hr, hb⟩; have HR2 := hide hr; have HB2 := hide hb; clear hr hb)
      go_ret
      exact Bt.lift ⟨g, rfl, hg, HR2.out, HB2.out⟩ (HB0.out.trans (BW.out.mono HB0.out.size))
end Gr
end Go.Proofs.Ytlbcjolbgeficaa
