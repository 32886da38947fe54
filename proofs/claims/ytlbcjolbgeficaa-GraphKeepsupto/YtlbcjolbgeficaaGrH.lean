/-
  Graph: Dead, Held
-/
import Derived.Test.YtlbcjolbgeficaaGrG
namespace Go.Proofs.Ytlbcjolbgeficaa
open Go.RowKit
set_option linter.unusedVariables false
set_option linter.unusedSimpArgs false
set_option linter.unnecessarySimpa false
set_option maxRecDepth 20000
namespace Gr
def usA (os : List Ob) (i : Nat) : Bool := match os[i]? with | some o => o.us | none => false
noncomputable def ddp (c : Vc) (i : Nat) : Bool := usA c.os i && !rb c.os (rts c) i
/-- The dead ones among the first k. -/
noncomputable def ddk (c : Vc) (k : Nat) : List Int := ((List.range k).filter (ddp c)).map fun i : Nat => (i : Int) + 1
noncomputable def dd (c : Vc) : List Int := ddk c c.os.length
theorem ddk_len (c : Vc) (k : Nat) : (ddk c k).length ≤ k := by
  unfold ddk
  rw [List.length_map]
  exact Nat.le_trans (List.length_filter_le _ _) (by simp)
theorem ddk_step (c : Vc) (k : Nat) : ddk c (k + 1) = ddk c k ++ (if ddp c k then [(k : Int) + 1] else []) := by
  unfold ddk
  rw [List.range_succ, List.filter_append, List.map_append]
  congr 1
  cases h : ddp c k <;> simp [h]
theorem dd_mem {c : Vc} {x : Int} (h : x ∈ dd c) : ∃ q : Nat, x = (q : Int) + 1 ∧ q < c.os.length ∧ ddp c q = true := by
  obtain ⟨i, hi, rfl⟩ := List.mem_map.1 h
  obtain ⟨h1, h2⟩ := List.mem_filter.1 hi
  exact ⟨i, rfl, List.mem_range.1 h1, h2⟩
theorem ncs_snoc (l : List Int) (u : Int) : ncs (l ++ [u]) = ncs l ++ ncs [u] := ncs_app l [u]

set_option maxHeartbeats 4000000 in
theorem dead_ok {c : Vc} {a : Av} {w : World} (hS : Shows w c a) (hB : Bv c) : Calls Try.prog 10 #[vl c a] w fun e w' => Nt w w' e (dd c) := by
  obtain ⟨W0, hW0, B0, R0⟩ := vbox w c a
  have VF := hide (fun (wx : World) (hb : Below W0.heap.size W0 wx) => vcells (row_on R0 hb))
  have HB0 := hide B0
  have HS0 := hide (hS.below B0)
  have l0 : w.heap.size < W0.heap.size := R0.lt
  have HBv := hide hB
  have LI := hide (fun (w1 : World) (h1 : Shows w1 c a) => live_ok h1 hB)
  have hno := hB.bd.no
  clear hS hB B0 R0
  obtain ⟨ph, co, ro, aa, na, ca, ra, cr, wa, nw, cw, oa, cb, fa, nf, cf, ga, ng, cg, qa, cq, k0, k1, k2, k3⟩ := a
  simp only [vl] at LI ⊢
  simp only at hW0 VF LI
  obtain ⟨n, hn⟩ : ∃ n, c.os.length = n := ⟨_, rfl⟩
  obtain ⟨nr, hnre⟩ : ∃ nr, c.rs.length = nr := ⟨_, rfl⟩
  obtain ⟨nq, hnqe⟩ : ∃ nq, c.qu.length = nq := ⟨_, rfl⟩
  rw [hn, hnre, hnqe] at hW0 VF LI ⊢
  rw [hn] at hno
  have Hn := hide hn
  have Hnr := hide hnre
  have Hnq := hide hnqe
  clear hn hnre hnqe
  have D0 : Below W0.heap.size W0 W0.drew := ⟨rfl, rfl, rfl, Nat.le_refl _, fun _ _ => rfl⟩
  obtain ⟨iI, hiI, hzI, hsI, hyI⟩ := infoI
  obtain ⟨c0, c1, c2, c3, c4, c5, c6, c7, c8, c9, c10, c11, c12, c13⟩ := VF.out W0 (Below.refl _ _)
  go_enter Try.func10, Try.ntmps10
  go_upto_region 3 with (go_at_call 9; refine (LI.out _ (by exact HS0.out)).mono ?_; rintro e w1 ⟨g, rfl, hg, hr, hb⟩; have HR := hide hr; have HB1 := hide hb; clear hr hb)
  clear hW0 c0 c1 c2 c3 c4 c5 c6 c7 c8 c9 c10 c11 c12 c13
  obtain ⟨z, hz⟩ : ∃ z, w1.heap.size = z := ⟨_, rfl⟩
  have Hz := hide hz
  have hgz : g < z := by rw [← hz]; exact HR.out.lt
  clear hz
  go_wp2_with fail
  go_loopw [3, 9] (fun v i wr => ∃ (k : Nat), k ≤ n ∧ i = .int .i64 k ∧ Hid (wr.ownsRow z 3 1 v (ddk c k).length (ncs (ddk c k))) ∧ Hid (Below z w1 wr)) (fun _ i _ => n - (intOf i).toNat)
  case atStart => exact ⟨0, Nat.zero_le _, rfl, ⟨rfl, .inl ⟨rfl, rfl⟩⟩, by show Below z w1 w1; exact Below.refl _ _⟩
  case round =>
    obtain ⟨k, hk, rfl, HO, HB⟩ := hrel
    obtain ⟨la, cp, rfl⟩ := own_slice HO.out
    have hzw : z ≤ wr.heap.size := by have := HB.out.size; rw [Hz.out] at this; exact this
    have BW := hide (show Below W0.heap.size W0 wr from HB1.out.trans (HB.out.mono (by rw [← Hz.out]; exact HB1.out.size)))
    have HRr := hide (row_on HR.out (show Below w1.heap.size w1 wr by rw [Hz.out]; exact HB.out))
    by_cases hlt : k < n
    · have hkn : (k : Int) < (n : Int) := by omega
      obtain ⟨o, ho⟩ : ∃ o, c.os[k]? = some o := ⟨c.os[k]'(by rw [Hn.out]; exact hlt), by simp [Hn.out, hlt]⟩
      obtain ⟨b, off, ai, ci, hoa, hbl, hoc, hse⟩ := (HS0.out.below BW.out).ob k o ho
      simp only at hoa
      subst hoa
      have o0 := (Ob.cells9 hoc).1
      have c6 := (VF.out wr BW.out).2.2.2.2.2.2.1
      have r0 := HRr.out.cell hlt
      have LN : (ddk c k).length ≤ k := ddk_len c k
      have ST := hide (ddk_step c k)
      have DP := hide (show ddp c k = (o.us && !rb c.os (rts c) k) by simp [ddp, usA, ho])
      obtain ⟨bv, hbv⟩ : ∃ bv, rb c.os (rts c) k = bv := ⟨_, rfl⟩
      obtain ⟨ov, hov⟩ : ∃ ov, o.us = ov := ⟨_, rfl⟩
      rw [hbv] at r0 DP
      rw [hov] at o0 DP
      obtain ⟨l, hl⟩ : ∃ l, ddk c k = l := ⟨_, rfl⟩
      rw [hl] at HO LN ST ⊢
      have HL := hide hl
      obtain ⟨ln, hln⟩ : ∃ ln, l.length = ln := ⟨_, rfl⟩
      rw [hln] at HO LN ⊢
      have HLn := hide hln
      clear hoc hse ho hbv hov hl hln
      have skip : ¬ (ov = true ∧ bv = false) → Hid (wr.ownsRow z 3 1 (.slice la ln cp) (ddk c (k + 1)).length (ncs (ddk c (k + 1)))) := by
        intro h
        have e : ddk c (k + 1) = l := by
          rw [ST.out, DP.out]
          cases ov <;> cases bv <;> simp at h ⊢
        show World.ownsRow _ _ _ _ _ _ _
        rw [e, HLn.out]
        exact HO.out
      have SK := hide skip
      clear skip
      cases ov
      · have SX := hide (SK.out (by simp))
        go_wp2_with fail
        go_roundw
        case rel => exact ⟨k + 1, by omega, by go_num, SX.out, HB.out⟩
        case measure => simp [intOf]; omega
      · cases bv
        · have O3 := hide (show (wr.alloc (.cells #[.int .i64 ((k : Int) + 1)] 3)).ownsRow z 3 1 (.slice la ln cp) ln (ncs l) from owns_on HO.out ((Below.refl _ wr).alloc (Nat.le_refl _) _))
          go_wp2_with (at_builtin; refine wpList_append_own_at _ rfl (.tmp 24) (.tmp 27) 26 rfl z 3 iI (.int .i64 0) 1 8 Try.underlying26 hiI hzI hsI hyI rfl (by decide) (.slice la ln cp) ln (ncs l) rfl O3.out ⟨wr.heap.size, 0, none⟩ 1 1 (ncs [(k : Int) + 1]) rfl rfl (fun j v hj => by rw [Go.WideShapes.add_plain]; have hj1 : j < 1 := (by have := (List.getElem?_eq_some_iff.1 hj).1; simpa [ncs] using this); (obtain rfl : j = 0 := (by omega)); simp [ncs] at hj; rw [← hj]; simp) (ncs_one _) (by unfold maxLen; omega) (by omega) (by simp; omega) ?_; intro v2 w2 hown hgr _ _; obtain ⟨la3, cp3, rfl⟩ := own_slice hown; have HO4 := hide hown; have HB4 := hide (below_grown (HB.out.alloc hzw (.cells #[.int .i64 ((k : Int) + 1)] 3)) O3.out hgr (by simp; omega)); clear hown hgr)
          go_roundw
          case rel =>
            refine ⟨k + 1, by omega, by go_num, ?_, HB4.out⟩
            have e : ddk c (k + 1) = l ++ [(k : Int) + 1] := by rw [ST.out, DP.out]; rfl
            show World.ownsRow _ _ _ _ _ _ _
            rw [e, ncs_snoc, List.length_append, HLn.out]
            exact HO4.out
          case measure => simp [intOf]; omega
        · have SX := hide (SK.out (by simp))
          go_wp2_with fail
          go_roundw
          case rel => exact ⟨k + 1, by omega, by go_num, SX.out, HB.out⟩
          case measure => simp [intOf]; omega
    · have hkn : ¬ (k : Int) < (n : Int) := by omega
      have HE := hide (show ddk c k = dd c by unfold dd; rw [Hn.out]; congr 1; omega)
      go_wp2_with fail
      go_ret
      rw [← HE.out]
      exact ⟨_, _, rfl, owns_low HO.out (by rw [← Hz.out]; exact Nat.le_trans HB0.out.size HB1.out.size), HB0.out.trans (BW.out.mono HB0.out.size)⟩

/-- Is the object's finalizer there, and not taken? -/
def fx (os : List Ob) (k : Int) : Bool := match os[k.toNat - 1]? with | some o => o.fi && !o.ta | none => false
/-- The handles of the dead ones whose finalizers are not taken, of the first k. -/
noncomputable def hlk (c : Vc) (k : Nat) : List Int := (((dd c).take k).filter (fx c.os)).map (hof c.os)
noncomputable def hls (c : Vc) : List Int := ((dd c).filter (fx c.os)).map (hof c.os)
theorem hlk_len (c : Vc) (k : Nat) : (hlk c k).length ≤ k := by
  unfold hlk
  rw [List.length_map]
  exact Nat.le_trans (List.length_filter_le _ _) (by simp; omega)
theorem hlk_step (c : Vc) {k : Nat} {x : Int} (h : (dd c)[k]? = some x) : hlk c (k + 1) = hlk c k ++ (if fx c.os x then [hof c.os x] else []) := by
  unfold hlk
  rw [filt_step h, List.map_append]
  congr 1
  cases fx c.os x <;> simp
theorem hls_wd (c : Vc) : Wd (hls c) := by
  intro u hu
  obtain ⟨k, _, rfl⟩ := List.mem_map.1 hu
  exact hof_wd _ _
theorem hls_len (c : Vc) : (hls c).length ≤ c.os.length := by
  unfold hls
  rw [List.length_map]
  exact Nat.le_trans (List.length_filter_le _ _) (ddk_len c _)

set_option maxHeartbeats 4000000 in
theorem held_ok {c : Vc} {a : Av} {w : World} (hS : Shows w c a) (hB : Bv c) : Calls Try.prog 12 #[vl c a] w fun e w' => Bt w w' e c.os.length (rb c.os (hls c)) := by
  obtain ⟨m, hm⟩ : ∃ m, (hls c).length = m := ⟨_, rfl⟩
  have Hm := hide hm
  obtain ⟨W0, hW0, B0, R0⟩ := vbox w c a
  have VF := hide (fun (wx : World) (hb : Below W0.heap.size W0 wx) => vcells (row_on R0 hb))
  have HB0 := hide B0
  have HS0 := hide (hS.below B0)
  have l0 : w.heap.size < W0.heap.size := R0.lt
  have HBv := hide hB
  have DE := hide (fun (w1 : World) (h1 : Shows w1 c a) => dead_ok h1 hB)
  have HA := hide (fun (w1 : World) (h1 : Sob w1 a.oa c.os) (q : Nat) (o : Ob) (h : c.os[q]? = some o) => handleOf_ok h1 hB.bd.no h)
  have RE := hide (fun (w1 : World) (h1 : Shows w1 c a) (ao : Option Addr) (cp : Nat) (h2 : SeesU w1 ao (hls c)) => reach_ok (fc := cp) h1.ob h2 hB.bd (hls_wd c) (by have := hls_len c; have := hB.bd.no; omega))
  have hno := hB.bd.no
  clear hS hB B0 R0
  obtain ⟨ph, co, ro, aa, na, ca, ra, cr, wa, nw, cw, oa, cb, fa, nf, cf, ga, ng, cg, qa, cq, k0, k1, k2, k3⟩ := a
  simp only [vl] at DE HA RE ⊢
  simp only at hW0 VF DE HA RE
  obtain ⟨n, hn⟩ : ∃ n, c.os.length = n := ⟨_, rfl⟩
  obtain ⟨nr, hnre⟩ : ∃ nr, c.rs.length = nr := ⟨_, rfl⟩
  obtain ⟨nq, hnqe⟩ : ∃ nq, c.qu.length = nq := ⟨_, rfl⟩
  rw [hn, hnre, hnqe] at hW0 VF DE HA RE ⊢
  rw [hn] at hno
  have Hn := hide hn
  have Hnr := hide hnre
  have Hnq := hide hnqe
  clear hn hnre hnqe
  have D0 : Below W0.heap.size W0 W0.drew := ⟨rfl, rfl, rfl, Nat.le_refl _, fun _ _ => rfl⟩
  rw [hm] at RE
  clear hm
  obtain ⟨iU, hiU, hzU, hsU, hyU⟩ := infoU
  obtain ⟨c0, c1, c2, c3, c4, c5, c6, c7, c8, c9, c10, c11, c12, c13⟩ := VF.out W0 (Below.refl _ _)
  obtain ⟨nd, hnd⟩ : ∃ nd, (dd c).length = nd := ⟨_, rfl⟩
  have hndn : nd ≤ n := by rw [← hnd, ← Hn.out]; exact ddk_len c _
  have Hnd := hide hnd
  clear hnd
  go_enter Try.func12, Try.ntmps12
  go_upto_region 3 with (go_at_call 10; refine (DE.out _ (by exact HS0.out)).mono ?_; rintro e w1 ⟨ao, cq2, rfl, hr, hb⟩; rw [Hnd.out] at hr; (try rw [Hnd.out]); have HR := hide hr; have HB1 := hide hb; clear hr hb)
  clear hW0 c0 c1 c2 c3 c4 c5 c6 c7 c8 c9 c10 c11 c12 c13
  obtain ⟨z, hz⟩ : ∃ z, w1.heap.size = z := ⟨_, rfl⟩
  have Hz := hide hz
  clear hz
  go_wp2_with fail
  go_loopw [3, 10] (fun v i wr => ∃ (k : Nat), k ≤ nd ∧ i = .int .i64 k ∧ Hid (wr.ownsRow z 22 1 v (hlk c k).length (ucs (hlk c k))) ∧ Hid (Below z w1 wr)) (fun _ i _ => nd - (intOf i).toNat)
  case atStart => exact ⟨0, Nat.zero_le _, rfl, ⟨rfl, .inl ⟨rfl, rfl⟩⟩, by show Below z w1 w1; exact Below.refl _ _⟩
  case round =>
    obtain ⟨k, hk, rfl, HO, HB⟩ := hrel
    obtain ⟨la, cp, rfl⟩ := own_slice HO.out
    have hzw : z ≤ wr.heap.size := by have := HB.out.size; rw [Hz.out] at this; exact this
    have BW := hide (show Below W0.heap.size W0 wr from HB1.out.trans (HB.out.mono (by rw [← Hz.out]; exact HB1.out.size)))
    by_cases hlt : k < nd
    · have hkn : (k : Int) < (nd : Int) := by omega
      obtain ⟨x, hx⟩ : ∃ x, (dd c)[k]? = some x := ⟨(dd c)[k]'(by rw [Hnd.out]; exact hlt), by simp [Hnd.out, hlt]⟩
      obtain ⟨q, rfl, hq, _⟩ := dd_mem (List.mem_of_getElem? hx)
      obtain ⟨b1, off1, hao, hb1l, hcx⟩ := (own_seesN HR.out).below (show Below w1.heap.size w1 wr by rw [Hz.out]; exact HB.out) k _ hx
      subst hao
      have hqn : (q : Int) < (n : Int) := by rw [Hn.out] at hq; omega
      obtain ⟨o, ho⟩ : ∃ o, c.os[q]? = some o := ⟨c.os[q], by simp [hq]⟩
      have SH := HS0.out.below BW.out
      obtain ⟨b, off, ai, ci, hoa, hbl, hoc, hse⟩ := SH.ob q o ho
      simp only at hoa
      subst hoa
      obtain ⟨o0, o1, o2, o3, o4, o5, o6, o7, o8⟩ := Ob.cells9 hoc
      have c6 := (VF.out wr BW.out).2.2.2.2.2.2.1
      have LN : (hlk c k).length ≤ k := hlk_len c k
      have ST := hide (hlk_step c hx)
      have FX := hide (show fx c.os ((q : Int) + 1) = (o.fi && !o.ta) by
        have e : ((q : Int) + 1).toNat - 1 = q := by omega
        simp only [fx, e, ho])
      have HO2 := hide (hof_at ho)
      have HAN := hide (fun (w1 : World) (hb : Below wr.heap.size wr w1) => HA.out w1 (SH.below hb).ob q o ho)
      obtain ⟨u, hu⟩ : ∃ u, hd ((q : Int) + 1) o.ge = u := ⟨_, rfl⟩
      rw [hu] at HO2 HAN
      obtain ⟨us, li, fi, ta, ag, ge, lk, nx, sl⟩ := o
      simp only at o0 o1 o2 o3 o4 o5 o6 o7 o8 FX
      obtain ⟨l, hl⟩ : ∃ l, hlk c k = l := ⟨_, rfl⟩
      rw [hl] at HO LN ST ⊢
      have HL := hide hl
      obtain ⟨ln, hln⟩ : ∃ ln, l.length = ln := ⟨_, rfl⟩
      rw [hln] at HO LN ⊢
      have HLn := hide hln
      clear hoc hse ho hu hl hln hx SH hbl hb1l
      obtain ⟨W4, hW4, B4, R4⟩ := obox wr us li fi ta ag ge lk nx ai sl.length ci
      have HB4 := hide B4
      have p2 : W4.cell? ⟨wr.heap.size, 2, none⟩ = some (.bool fi) := R4.cell (i := 2) (by decide)
      have p3 : W4.cell? ⟨wr.heap.size, 3, none⟩ = some (.bool ta) := R4.cell (i := 3) (by decide)
      have s4 : wr.heap.size ≤ W4.heap.size := B4.size
      have skip : ¬ (fi = true ∧ ta = false) → Hid (W4.ownsRow z 22 1 (.slice la ln cp) (hlk c (k + 1)).length (ucs (hlk c (k + 1)))) := by
        intro h
        have e : hlk c (k + 1) = l := by
          rw [ST.out, FX.out]
          cases fi <;> cases ta <;> simp at h ⊢
        show World.ownsRow _ _ _ _ _ _ _
        rw [e, HLn.out]
        exact owns_on HO.out B4
      have SK := hide skip
      have HBz := hide (HB.out.trans (B4.mono hzw))
      clear skip R4 B4
      cases fi
      · have SX := hide (SK.out (by simp))
        go_wp2_with fail
        go_roundw
        case rel => exact ⟨k + 1, by omega, by go_num, SX.out, HBz.out⟩
        case measure => simp [intOf]; omega
      · cases ta
        · have BW4 := hide (show Below W0.heap.size W0 W4 from BW.out.trans (HB4.out.mono BW.out.size))
          obtain ⟨c0, c1, c2, c3, c4, c5, c6, c7, c8, c9, c10, c11, c12, c13⟩ := VF.out W4 BW4.out
          have HO4 := hide (owns_on HO.out HB4.out)
          have HA4 := hide (HAN.out W4 HB4.out)
          go_wp2_with (first
            | (go_at_call 24; refine HA4.out.mono ?_; rintro e w6 ⟨rfl, hb6⟩; have HB6 := hide hb6; have hz6 : W4.heap.size ≤ w6.heap.size := hb6.size; have O6 := hide (show (w6.alloc (.cells #[.int .u64 u] 22)).ownsRow z 22 1 (.slice la ln cp) ln (ucs l) from owns_on (owns_on HO4.out hb6) ((Below.refl _ w6).alloc (Nat.le_refl _) _)); clear hb6)
            | (at_builtin; refine wpList_append_own_at _ rfl (.tmp 27) (.tmp 31) 23 rfl z 22 iU (.int .u64 0) 1 8 Try.underlying23 hiU hzU hsU hyU rfl (by decide) (.slice la ln cp) ln (ucs l) rfl O6.out ⟨w6.heap.size, 0, none⟩ 1 1 (ucs [u]) rfl rfl (fun j v hj => by rw [Go.WideShapes.add_plain]; have hj1 : j < 1 := (by have := (List.getElem?_eq_some_iff.1 hj).1; simpa [ucs] using this); (obtain rfl : j = 0 := (by omega)); simp [ucs] at hj; rw [← hj]; simp) (ucs_one _) (by unfold maxLen; omega) (by omega) (by simp; omega) ?_; intro v2 w2 hown hgr _ _; obtain ⟨la3, cp3, rfl⟩ := own_slice hown; have HO9 := hide hown; have HB9 := hide (below_grown ((HBz.out.trans (HB6.out.mono (by omega))).alloc (by omega) (.cells #[.int .u64 u] 22)) O6.out hgr (by simp; omega)); clear hown hgr))
          go_roundw
          case rel =>
            refine ⟨k + 1, by omega, by go_num, ?_, HB9.out⟩
            have e : hlk c (k + 1) = l ++ [u] := by rw [ST.out, FX.out, HO2.out]; rfl
            show World.ownsRow _ _ _ _ _ _ _
            rw [e, ucs_snoc, List.length_append, HLn.out]
            exact HO9.out
          case measure => simp [intOf]; omega
        · have SX := hide (SK.out (by simp))
          go_wp2_with fail
          go_roundw
          case rel => exact ⟨k + 1, by omega, by go_num, SX.out, HBz.out⟩
          case measure => simp [intOf]; omega
    · have hkn : ¬ (k : Int) < (nd : Int) := by omega
      have HE := hide (show hlk c k = hls c by
        unfold hlk hls
        rw [List.take_of_length_le (by rw [Hnd.out]; omega)])
      rw [HE.out, Hm.out] at HO
      obtain ⟨c0, c1, c2, c3, c4, c5, c6, c7, c8, c9, c10, c11, c12, c13⟩ := VF.out wr BW.out
      have RX := hide (RE.out wr (HS0.out.below BW.out) la cp (own_seesU HO.out))
      have HMM := hide (show (hlk c k).length = m by rw [HE.out]; exact Hm.out)
      rw [HMM.out]
      go_wp2_with (go_at_call 7; refine RX.out.mono ?_; rintro e w2 ⟨g, rfl, hg, hr, hb⟩; have HR2 := hide hr; have HB2 := hide hb; clear hr hb)
      go_ret
      exact Bt.lift ⟨g, rfl, hg, HR2.out, HB2.out⟩ (HB0.out.trans (BW.out.mono HB0.out.size))
end Gr
end Go.Proofs.Ytlbcjolbgeficaa
