/-
  Hue: the document's Safe
-/
import Derived.Test.YtcjlbecmghaalaaHuTf
import Derived.Test.YtcjlbecmghaalaaHuTa
import Derived.Test.YtcjlbecmghaalaaGrRd
namespace Go.Proofs.Ytcjlbecmghaalaa
open Go.RowKit
set_option linter.unusedVariables false
set_option linter.unusedSimpArgs false
set_option linter.unnecessarySimpa false
set_option maxRecDepth 20000
namespace Hu
open Gr
set_option maxHeartbeats 16000000 in
theorem rsafe_ok {c : Vc} {a : Av} {w : World} (hS : Shows w c a) (hB : Bv c) : Calls Try.prog 13 #[vl c a] w fun e w' => e = .returned (.tuple #[.int .i64 (s1 (sfl c)), .int .i64 (s2 (sfl c))]) ∧ Below w.heap.size w w' := by
  obtain ⟨W0, hW0, B0, R0⟩ := vbox w c a
  have VF := hide (fun (wx : World) (hb : Below W0.heap.size W0 wx) => vcells (row_on R0 hb))
  have HB0 := hide B0
  have HS0 := hide (hS.below B0)
  have l0 : w.heap.size < W0.heap.size := R0.lt
  have SHX := hide (fun (wx : World) (hb : Below w.heap.size w wx) (u : Int) (hu : 0 ≤ u ∧ u < 18446744073709551616) => shown_ok (a := a) (hS.ob.below hb) hB.bd hu.1 hu.2)
  have LI := hide (fun (wx : World) (hb : Below w.heap.size w wx) => rlive_ok (hS.below hb) hB)
  have UPW := hide (fun (wx : World) (hb : Below W0.heap.size W0 wx) => show Below w.heap.size w wx from HB0.out.trans (hb.mono HB0.out.size))
  have HBv := hide hB
  have hno := hB.bd.no
  have hnr := hB.nr
  have hnq := hB.nq
  clear hS hB B0 R0
  obtain ⟨ph, co, ro, aa, na, ca, ra, cr, wa, nw, cw, oa, cb, fa, nf, cf, ga, ng, cg, qa, cq, k0, k1, k2, k3⟩ := a
  simp only [vl] at LI SHX ⊢
  simp only at hW0 VF HS0 SHX LI
  unfold Bt at LI
  obtain ⟨n, hn⟩ : ∃ n, c.os.length = n := ⟨_, rfl⟩
  obtain ⟨nr, hnre⟩ : ∃ nr, c.rs.length = nr := ⟨_, rfl⟩
  obtain ⟨nqz, hnqe⟩ : ∃ nqz, c.qu.length = nqz := ⟨_, rfl⟩
  simp only [hn, hnre, hnqe] at hW0 VF SHX LI hno hnr hnq ⊢
  have Hn := hide hn
  have Hnr := hide hnre
  have Hnq := hide hnqe
  obtain ⟨zz, hzz⟩ : ∃ z, sfl c = z := ⟨_, rfl⟩
  rw [hzz]
  have HZ := hide hzz
  clear hn hnre hnqe hzz
  go_enter Try.func13, Try.ntmps13
  go_wp2_with fail
  clear hW0
  go_loopw [4] (fun i wr => ∃ (k : Nat), k ≤ nr ∧ i = .int .i64 k ∧ Hid ((c.rs.take k).flatten.filter (bad c.os) = []) ∧ Hid (Below W0.heap.size W0 wr)) (fun i _ => nr - (intOf i).toNat)
  case atStart => exact ⟨0, Nat.zero_le _, rfl, (by simp : ((c.rs.take 0).flatten.filter (bad c.os)) = []), Below.refl _ _⟩
  case round =>
    obtain ⟨k, hk, rfl, HP, HB⟩ := hrel
    have x4 := (VF.out wr HB.out).2.2.2.2.1
    by_cases hlt : k < nr
    · have hkn : (k : Int) < (nr : Int) := by omega
      obtain ⟨r, hr⟩ : ∃ r, c.rs[k]? = some r := ⟨c.rs[k]'(by rw [Hnr.out]; exact hlt), by simp [Hnr.out, hlt]⟩
      obtain ⟨b, off, ai, ci, hra, hbl, hcc, hse⟩ := HS0.out.rt k r hr
      simp only at hra
      subst hra
      have hrb := HBv.out.rl r (List.mem_of_getElem? hr)
      have HSE := hide hse
      have HWr := hide hrb.2
      have FL := hide (flat_step hr)
      obtain ⟨m, hm⟩ : ∃ m, r.length = m := ⟨_, rfl⟩
      have hml : m ≤ 17592186044416 := by rw [← hm]; exact hrb.1
      rw [hm] at hcc
      have Hm := hide hm
      have CR := hide (fun (wx : World) (hb : Below W0.heap.size W0 wx) => (hb.cell (p := ⟨b, off + k, none⟩) hbl).trans hcc)
      clear hr hse hrb hm hcc
      obtain ⟨wo, rfl⟩ : ∃ wo, wo = wr := ⟨_, rfl⟩
      go_wp2_with fail
      clear x4
      go_loopw [5] (fun i wr => ∃ (j : Nat), j ≤ m ∧ i = .int .i64 j ∧ Hid ((r.take j).filter (bad c.os) = []) ∧ Hid (Below W0.heap.size W0 wr)) (fun i _ => m - (intOf i).toNat)
      case atStart => exact ⟨0, Nat.zero_le _, rfl, (by simp : ((r.take 0).filter (bad c.os)) = []), HB.out⟩
      case round =>
        obtain ⟨j, hj, rfl, HQ, HBj⟩ := hrel
        have x4 := (VF.out wr HBj.out).2.2.2.2.1
        have cR := CR.out wr HBj.out
        by_cases hlt2 : j < m
        · have hjn : (j : Int) < (m : Int) := by omega
          obtain ⟨u, hu⟩ : ∃ u, r[j]? = some u := ⟨r[j]'(by rw [Hm.out]; exact hlt2), by simp [Hm.out, hlt2]⟩
          obtain ⟨b2, off2, hai, hbl3, hcc2⟩ := (HSE.out).below HBj.out j u hu
          subst hai
          have hwu := HWr.out u (List.mem_of_getElem? hu)
          have FX := hide (SHX.out wr (UPW.out _ HBj.out) u hwu)
          have IX := hide (fun w1 => rindex_any u hwu.1 hwu.2 w1)
          obtain ⟨x0, x1, x2, x3, x4, x5, x6, x7, x8, x9, x10, x11, x12, x13⟩ := VF.out wr HBj.out
          have FS := hide (show (r.take (j + 1)).filter (bad c.os) = (if bad c.os u then [u] else []) by rw [filt_step hu, HQ.out]; rfl)
          have ZZ := hide (show bad c.os u = true → ∃ t, zz = lo32 u :: t from fun hb => by
            have e : r = r.take (j + 1) ++ r.drop (j + 1) := (List.take_append_drop _ _).symm
            have hfe : ∃ t, r.filter (bad c.os) = u :: t := by
              refine ⟨(r.drop (j + 1)).filter (bad c.os), ?_⟩
              conv => lhs; rw [e]
              rw [List.filter_append, FS.out, hb]
              rfl
            obtain ⟨t0, hfe⟩ := hfe
            have e2 : c.rs = c.rs.take (k + 1) ++ c.rs.drop (k + 1) := (List.take_append_drop _ _).symm
            rw [← HZ.out]
            unfold sfl
            rw [e2, List.flatten_append, FL.out, List.filter_append, List.filter_append, HP.out, hfe]
            exact ⟨_, rfl⟩)
          obtain ⟨p, hp⟩ : ∃ p, gd c.os u = p := ⟨_, rfl⟩
          rw [hp] at FX
          clear hu
          by_cases hu0 : u = 0
          · have g0 : (u != 0) = false := by simp [hu0]
            have NN := hide (show (r.take (j + 1)).filter (bad c.os) = [] by rw [FS.out]; simp [bad, hu0])
            clear hu0 hp ZZ FS hwu
            go_wp2_with fail
            go_roundw
            case rel => exact ⟨j + 1, by omega, by go_num, NN.out, HBj.out⟩
            case measure => simp [intOf]; omega
          · have g0 : (u != 0) = true := by simp [hu0]
            by_cases hp0 : p = 0
            · subst hp0
              obtain ⟨t, ht⟩ := ZZ.out (by simp [bad, hu0, hp])
              subst ht
              clear hu0 hp ZZ FS hwu
              go_wp2_with (first | (go_at_call 43; refine FX.out.mono ?_; rintro e w2 ⟨rfl, hb⟩; have HB2 := hide (HBj.out.trans (hb.mono HBj.out.size)); clear hb) | (go_at_call 44; refine (IX.out _).mono ?_; rintro e w1 ⟨rfl, hq⟩; obtain rfl := hq.symm; clear hq))
              refine bodyPost_ret (v := .tuple #[.int .i64 (u % 4294967296), .int .i64 150]) (by simp [results, Try.results13, go_sem, *]) rfl ?_
              exact ⟨rfl, UPW.out _ HB2.out⟩
            · have NN := hide (show (r.take (j + 1)).filter (bad c.os) = [] by rw [FS.out]; simp [bad, hp, hp0])
              have q0 : ((p : Int) == 0) = false := by simp [hp0]
              have q1 : ¬ (p : Int) = 0 := by omega
              clear hu0 hp ZZ FS hwu
              go_wp2_with (go_at_call 43; refine FX.out.mono ?_; rintro e w2 ⟨rfl, hb⟩; have HB2 := hide (HBj.out.trans (hb.mono HBj.out.size)); clear hb)
              go_roundw
              case rel => exact ⟨j + 1, by omega, by go_num, NN.out, HB2.out⟩
              case measure => simp [intOf]; omega
        · have hjn : ¬ (j : Int) < (m : Int) := by omega
          have e0 : r.take j = r := List.take_of_length_le (by rw [Hm.out]; omega)
          rw [e0] at HQ
          have NN := hide (show (c.rs.take (k + 1)).flatten.filter (bad c.os) = [] by rw [FL.out, List.filter_append, HP.out, HQ.out]; rfl)
          go_wp2_with fail
          go_roundw
          case rel => exact ⟨k + 1, by omega, by go_num, NN.out, HBj.out⟩
          case measure => simp [intOf]; omega
    · have hkn : ¬ (k : Int) < (nr : Int) := by omega
      have HP1 := hide (show c.rs.flatten.filter (bad c.os) = [] by
        have := HP.out
        rw [List.take_of_length_le (by rw [Hnr.out]; omega)] at this
        exact this)
      obtain ⟨wo, rfl⟩ : ∃ wo, wo = wr := ⟨_, rfl⟩
      obtain rfl : k = nr := by omega
      clear hk hlt HP
      go_wp2_with fail
      clear x4 hkn
      go_loopw [7] (fun i wr => ∃ (j : Nat), j ≤ nqz ∧ i = .int .i64 j ∧ Hid ((c.qu.take j).filter (badq c.os) = []) ∧ wr = wo) (fun i _ => nqz - (intOf i).toNat)
      case atStart => exact ⟨0, Nat.zero_le _, rfl, (by simp : ((c.qu.take 0).filter (badq c.os)) = []), rfl⟩
      case round =>
        obtain ⟨j, hj, rfl, HQ, rfl⟩ := hrel
        have x9 := (VF.out wr HB.out).2.2.2.2.2.2.2.2.2.1
        by_cases hlt2 : j < nqz
        · have hjn : (j : Int) < (nqz : Int) := by omega
          obtain ⟨y, hy⟩ : ∃ y, c.qu[j]? = some y := ⟨c.qu[j]'(by rw [Hnq.out]; exact hlt2), by simp [Hnq.out, hlt2]⟩
          obtain ⟨b2, off2, ha2, hbl3, hc2⟩ := (HS0.out.below HB.out).qu j y hy
          simp only at ha2
          subst ha2
          have x6 := (VF.out wr HB.out).2.2.2.2.2.2.1
          have BQ := badq_val (os := c.os) (k := y)
          rw [Hn.out] at BQ
          have FS := hide (show (c.qu.take (j + 1)).filter (badq c.os) = (if badq c.os y then [y] else []) by rw [filt_step hy, HQ.out]; rfl)
          have ZZ := hide (show badq c.os y = true → ∃ t, zz = y :: t from fun hb => by
            have e : c.qu = c.qu.take (j + 1) ++ c.qu.drop (j + 1) := (List.take_append_drop _ _).symm
            rw [← HZ.out]
            unfold sfl
            rw [HP1.out]
            refine ⟨((c.qu.drop (j + 1)).filter (badq c.os)) ++ ((lv c.os (rts c) c.os.length).filter (bad c.os)).map lo32, ?_⟩
            conv => lhs; rw [e]
            rw [List.filter_append, FS.out, hb]
            simp)
          by_cases hy1 : 1 ≤ y
          · by_cases hyn : y ≤ (n : Int)
            · obtain ⟨q, rfl⟩ : ∃ q : Nat, y = (q : Int) + 1 := ⟨y.toNat - 1, by omega⟩
              have hq : q < n := by omega
              have hq2 : (q : Int) < (n : Int) := by omega
              obtain ⟨o, ho⟩ : ∃ o, c.os[q]? = some o := ⟨c.os[q]'(by rw [Hn.out]; exact hq), by simp [Hn.out, hq]⟩
              obtain ⟨bo, off3, ai, ci, hoa, hbl4, hoc, hse⟩ := (HS0.out.below HB.out).ob q o ho
              simp only at hoa
              subst hoa
              have o0 := (Ob.cells9 hoc).1
              have hbv := BQ.1 q o rfl ho
              obtain ⟨us, hus⟩ : ∃ us, o.us = us := ⟨_, rfl⟩
              rw [hus] at o0 hbv
              have t1 : ¬ ((q : Int) + 1 < 1) := by omega
              have t2 : ¬ ((n : Int) < (q : Int) + 1) := by omega
              clear hoc hse ho hus BQ hy hy1 hyn
              cases us
              · obtain ⟨t, ht⟩ := ZZ.out (by rw [hbv]; rfl)
                subst ht
                go_wp2_with fail
                refine bodyPost_ret (v := .tuple #[.int .i64 ((q : Int) + 1), .int .i64 150]) (by simp [results, Try.results13, go_sem, *]) rfl ?_
                exact ⟨rfl, UPW.out _ HB.out⟩
              · have NN := hide (show (c.qu.take (j + 1)).filter (badq c.os) = [] by rw [FS.out, hbv]; rfl)
                clear hbv
                go_wp2_with fail
                go_roundw
                case rel => exact ⟨j + 1, by omega, by go_num, NN.out, by first | rfl | trivial⟩
                case measure => simp [intOf]; omega
            · obtain ⟨t, ht⟩ := ZZ.out (BQ.2 (by omega))
              have t1 : ¬ (y < 1) := by omega
              have t2 : (n : Int) < y := by omega
              subst ht
              clear BQ hy hy1 hyn
              go_wp2_with fail
              refine bodyPost_ret (v := .tuple #[.int .i64 y, .int .i64 150]) (by simp [results, Try.results13, go_sem, *]) rfl ?_
              exact ⟨rfl, UPW.out _ HB.out⟩
          · obtain ⟨t, ht⟩ := ZZ.out (BQ.2 (by omega))
            have t1 : y < 1 := by omega
            subst ht
            clear BQ hy hy1
            go_wp2_with fail
            refine bodyPost_ret (v := .tuple #[.int .i64 y, .int .i64 150]) (by simp [results, Try.results13, go_sem, *]) rfl ?_
            exact ⟨rfl, UPW.out _ HB.out⟩
        · have hjn : ¬ (j : Int) < (nqz : Int) := by omega
          have HQ1 := hide (show c.qu.filter (badq c.os) = [] by
            have := HQ.out
            rw [List.take_of_length_le (by rw [Hnq.out]; omega)] at this
            exact this)
          obtain rfl : j = nqz := by omega
          clear hj hlt2 HQ
          go_upto_region 16 with (fail)
          clear x9
          obtain ⟨x0, x1, x2, x3, x4, x5, x6, x7, x8, x9, x10, x11, x12, x13⟩ := VF.out wr HB.out
          go_upto_region 17 with (go_at_call 32; refine (LI.out _ (UPW.out _ HB.out)).mono ?_; rintro e w7 ⟨gr, rfl, hgr, hrow, hb⟩; have HR7 := hide hrow; have B07 := hide hb; have HB7 := hide (HB.out.trans (hb.mono HB.out.size)); clear hrow hb)
          clear x0 x1 x2 x3 x4 x5 x6 x7 x8 x9 x10 x11 x12 x13 hjn
          go_wp2_with fail
          go_loopw [10] (fun i wr => ∃ (i' : Nat), i' ≤ n ∧ i = .int .i64 i' ∧ Hid ((lv c.os (rts c) i').filter (bad c.os) = []) ∧ Hid (wr.rowIs gr 4 n (fun i => .bool (rb c.os (rts c) i))) ∧ Hid (Below W0.heap.size W0 wr)) (fun i _ => n - (intOf i).toNat)
          case atStart => exact ⟨0, Nat.zero_le _, rfl, (rfl : (lv c.os (rts c) 0).filter (bad c.os) = []), HR7.out, HB7.out⟩
          case round =>
            clear HB HB7 HR7
            obtain ⟨i', hi', rfl, HV, HR7, HB⟩ := hrel
            by_cases hlt3 : i' < n
            · have hin : (i' : Int) < (n : Int) := by omega
              have rx := HR7.out.cell hlt3
              obtain ⟨lb, hlb⟩ : ∃ b, rb c.os (rts c) i' = b := ⟨_, rfl⟩
              rw [hlb] at rx
              have LS := hide (show lv c.os (rts c) (i' + 1) = lv c.os (rts c) i' ++ (if lb then sls c.os i' else []) by rw [← hlb]; rfl)
              have LSt := hide (show lb = true → lv c.os (rts c) (i' + 1) = lv c.os (rts c) i' ++ sls c.os i' from fun h => by rw [LS.out, if_pos h])
              clear hlb
              cases lb
              · have NN := hide (show (lv c.os (rts c) (i' + 1)).filter (bad c.os) = [] by rw [LS.out, List.filter_append, HV.out]; rfl)
                go_wp2_with fail
                go_roundw
                case rel => exact ⟨i' + 1, by omega, by go_num, NN.out, HR7.out, HB.out⟩
                case measure => simp [intOf]; omega
              · have LSu := hide (LSt.out rfl)
                clear LS LSt
                obtain ⟨o, ho⟩ : ∃ o, c.os[i']? = some o := ⟨c.os[i']'(by rw [Hn.out]; exact hlt3), by simp [Hn.out, hlt3]⟩
                obtain ⟨bo, off3, ai, ci, hoa, hbl4, hoc, hse⟩ := HS0.out.ob i' o ho
                simp only at hoa
                subst hoa
                have o8 : W0.cell? ⟨bo, off3 + i' * 9 + 8, none⟩ = some (.slice ai o.sl.length ci) := hoc 8 (by decide)
                have hom := List.mem_of_getElem? ho
                have HWr := hide (HBv.out.bd.sl o hom)
                have hml := HBv.out.bd.ns o hom
                have HSE := hide hse
                have Hsls := hide (sls_at ho)
                obtain ⟨r, hr⟩ : ∃ r, o.sl = r := ⟨_, rfl⟩
                rw [hr] at o8 HWr hml HSE Hsls
                obtain ⟨m, hm⟩ : ∃ m, r.length = m := ⟨_, rfl⟩
                rw [hm] at o8 hml
                have Hm := hide hm
                have CR := hide (fun (wx : World) (hb : Below W0.heap.size W0 wx) => (hb.cell (p := ⟨bo, off3 + i' * 9 + 8, none⟩) hbl4).trans o8)
                clear hoc hse ho hom hr hm o8
                obtain ⟨wp, rfl⟩ : ∃ wp, wp = wr := ⟨_, rfl⟩
                have HRK := hide (show ∀ wx, Below wp.heap.size wp wx → wx.rowIs gr 4 n (fun i => .bool (rb c.os (rts c) i)) from fun wx hb => row_on HR7.out hb)
                go_wp2_with fail
                clear rx
                go_loopw [11] (fun i wr => ∃ (j : Nat), j ≤ m ∧ i = .int .i64 j ∧ Hid ((r.take j).filter (bad c.os) = []) ∧ Hid (wr.rowIs gr 4 n (fun i => .bool (rb c.os (rts c) i))) ∧ Hid (Below W0.heap.size W0 wr)) (fun i _ => m - (intOf i).toNat)
                case atStart => exact ⟨0, Nat.zero_le _, rfl, (by simp : ((r.take 0).filter (bad c.os)) = []), HR7.out, HB.out⟩
                case round =>
                  obtain ⟨j, hj, rfl, HQ, HRj, HBj⟩ := hrel
                  have x6 := (VF.out wr HBj.out).2.2.2.2.2.2.1
                  have cR := CR.out wr HBj.out
                  by_cases hlt2 : j < m
                  · have hjn : (j : Int) < (m : Int) := by omega
                    obtain ⟨u, hu⟩ : ∃ u, r[j]? = some u := ⟨r[j]'(by rw [Hm.out]; exact hlt2), by simp [Hm.out, hlt2]⟩
                    obtain ⟨b2, off2, hai, hbl3, hcc2⟩ := (HSE.out).below HBj.out j u hu
                    subst hai
                    have hwu := HWr.out u (List.mem_of_getElem? hu)
                    have FX := hide (SHX.out wr (UPW.out _ HBj.out) u hwu)
                    have IX := hide (fun w1 => rindex_any u hwu.1 hwu.2 w1)
                    obtain ⟨x0, x1, x2, x3, x4, x5, x6, x7, x8, x9, x10, x11, x12, x13⟩ := VF.out wr HBj.out
                    have FS := hide (show (r.take (j + 1)).filter (bad c.os) = (if bad c.os u then [u] else []) by rw [filt_step hu, HQ.out]; rfl)
                    have ZZ := hide (show bad c.os u = true → ∃ t, zz = lo32 u :: t from fun hb => by
                      have e : r = r.take (j + 1) ++ r.drop (j + 1) := (List.take_append_drop _ _).symm
                      have hfe : ∃ t, r.filter (bad c.os) = u :: t := by
                        refine ⟨(r.drop (j + 1)).filter (bad c.os), ?_⟩
                        conv => lhs; rw [e]
                        rw [List.filter_append, FS.out, hb]
                        rfl
                      obtain ⟨t0, hfe⟩ := hfe
                      obtain ⟨t, ht⟩ := lv_head (os := c.os) (fr := rts c) (n := c.os.length) (i := i') (by rw [Hn.out]; exact hlt3)
                      rw [← HZ.out]
                      unfold sfl
                      rw [HP1.out, HQ1.out, ht, List.filter_append, LSu.out, List.filter_append, HV.out, Hsls.out, hfe]
                      exact ⟨_, rfl⟩)
                    obtain ⟨p, hp⟩ : ∃ p, gd c.os u = p := ⟨_, rfl⟩
                    rw [hp] at FX
                    clear hu
                    by_cases hu0 : u = 0
                    · have g0 : (u != 0) = false := by simp [hu0]
                      have NN := hide (show (r.take (j + 1)).filter (bad c.os) = [] by rw [FS.out]; simp [bad, hu0])
                      clear hu0 hp ZZ FS hwu
                      go_wp2_with fail
                      go_roundw
                      case rel => exact ⟨j + 1, by omega, by go_num, NN.out, HRj.out, HBj.out⟩
                      case measure => simp [intOf]; omega
                    · have g0 : (u != 0) = true := by simp [hu0]
                      by_cases hp0 : p = 0
                      · subst hp0
                        obtain ⟨t, ht⟩ := ZZ.out (by simp [bad, hu0, hp])
                        subst ht
                        clear hu0 hp ZZ FS hwu
                        go_wp2_with (first | (go_at_call 43; refine FX.out.mono ?_; rintro e w2 ⟨rfl, hb⟩; have HBs := hide hb; have HB2 := hide (HBj.out.trans (hb.mono HBj.out.size)); clear hb) | (go_at_call 44; refine (IX.out _).mono ?_; rintro e w1 ⟨rfl, hq⟩; obtain rfl := hq.symm; clear hq))
                        refine bodyPost_ret (v := .tuple #[.int .i64 (u % 4294967296), .int .i64 150]) (by simp [results, Try.results13, go_sem, *]) rfl ?_
                        exact ⟨rfl, UPW.out _ HB2.out⟩
                      · have NN := hide (show (r.take (j + 1)).filter (bad c.os) = [] by rw [FS.out]; simp [bad, hp, hp0])
                        have q0 : ((p : Int) == 0) = false := by simp [hp0]
                        have q1 : ¬ (p : Int) = 0 := by omega
                        clear hu0 hp ZZ FS hwu
                        go_wp2_with (go_at_call 43; refine FX.out.mono ?_; rintro e w2 ⟨rfl, hb⟩; have HBs := hide hb; have HB2 := hide (HBj.out.trans (hb.mono HBj.out.size)); clear hb)
                        go_roundw
                        case rel => exact ⟨j + 1, by omega, by go_num, NN.out, row_on HRj.out HBs.out, HB2.out⟩
                        case measure => simp [intOf]; omega
                  · have hjn : ¬ (j : Int) < (m : Int) := by omega
                    have e0 : r.take j = r := List.take_of_length_le (by rw [Hm.out]; omega)
                    rw [e0] at HQ
                    have NN := hide (show (lv c.os (rts c) (i' + 1)).filter (bad c.os) = [] by rw [LSu.out, List.filter_append, HV.out, Hsls.out, HQ.out]; rfl)
                    go_wp2_with fail
                    go_roundw
                    case rel => exact ⟨i' + 1, by omega, by go_num, NN.out, HRj.out, HBj.out⟩
                    case measure => simp [intOf]; omega
            · have hin : ¬ (i' : Int) < (n : Int) := by omega
              have ZE := hide (show zz = [] by
                obtain rfl : i' = n := by omega
                rw [← HZ.out]
                unfold sfl
                rw [HP1.out, HQ1.out, Hn.out, HV.out]
                rfl)
              obtain rfl := ZE.out
              go_wp2_with fail
              refine bodyPost_ret (v := .tuple #[.int .i64 0, .int .i64 0]) (by simp [results, Try.results13, go_sem, *]) rfl ?_
              exact ⟨rfl, UPW.out _ HB.out⟩
end Hu
end Go.Proofs.Ytcjlbecmghaalaa
