/-
  Hue: the package's Safe
-/
import Derived.Test.YtcjlbecmghaalaaHuF
import Derived.Test.YtcjlbecmghaalaaGrH
namespace Go.Proofs.Ytcjlbecmghaalaa
open Go.RowKit
set_option linter.unusedVariables false
set_option linter.unusedSimpArgs false
set_option linter.unnecessarySimpa false
set_option maxRecDepth 20000
namespace Hu
open Gr
/-- The slots of the live ones, of the first n. -/
noncomputable def lv (os : List Ob) (fr : List Int) : Nat → List Int
  | 0 => []
  | n + 1 => lv os fr n ++ (if rb os fr n then sls os n else [])
/-- What Safe looks at that is wrong, one behind the other. -/
noncomputable def sfl (c : Vc) : List Int := (c.rs.flatten.filter (bad c.os)).map lo32 ++ (c.qu.filter (badq c.os) ++ ((lv c.os (rts c) c.os.length).filter (bad c.os)).map lo32)
theorem lv_head {os : List Ob} {fr : List Int} : ∀ {n i : Nat}, i < n → ∃ t, lv os fr n = lv os fr (i + 1) ++ t
  | n + 1, i, h => by
    by_cases e : i = n
    · subst e; exact ⟨[], by simp⟩
    · obtain ⟨t, ht⟩ := lv_head (os := os) (fr := fr) (n := n) (i := i) (by omega)
      exact ⟨t ++ (if rb os fr n then sls os n else []), by simp only [lv] at ht ⊢; rw [ht]; simp⟩
theorem fb_filter {os : List Ob} {l : List Int} : (fb os l = 0 ∧ l.filter (bad os) = []) ∨ (fb os l ≠ 0 ∧ ∃ r, l.filter (bad os) = fb os l :: r) := by
  unfold fb
  induction l with
  | nil => exact .inl ⟨rfl, rfl⟩
  | cons x r ih =>
    cases hb : bad os x with
    | true =>
      refine .inr ⟨?_, r.filter (bad os), ?_⟩
      · simp only [List.find?_cons, hb, Option.getD]
        intro e; subst e; simp [bad] at hb
      · simp [List.filter_cons, hb, List.find?_cons]
    | false => simpa [List.filter_cons, hb, List.find?_cons] using ih
theorem badq_val {os : List Ob} {k : Int} : (∀ q o, k = (q : Nat) + 1 → os[q]? = some o → badq os k = !o.us) ∧ (¬ (1 ≤ k ∧ k ≤ (os.length : Int)) → badq os k = true) := by
  constructor
  · intro q o hk ho
    have e : k.toNat - 1 = q := by omega
    unfold badq
    rw [e, ho]
    have : decide (1 ≤ k) = true := by simp; omega
    simp [this]
  · intro h
    unfold badq
    split
    · rename_i o ho
      have hl := (List.getElem?_eq_some_iff.1 ho).1
      have : decide (1 ≤ k) = false := by simp; omega
      simp [this]
    · rfl

set_option maxHeartbeats 16000000 in
theorem safe_ok {c : Vc} {a : Av} {w : World} (hS : Shows w c a) (hB : Bv c) : Calls Try.prog 17 #[vl c a] w fun e w' => e = .returned (.tuple #[.int .i64 (s1 (sfl c)), .int .i64 (s2 (sfl c))]) ∧ Below w.heap.size w w' := by
  obtain ⟨W0, hW0, B0, R0⟩ := vbox w c a
  have VF := hide (fun (wx : World) (hb : Below W0.heap.size W0 wx) => vcells (row_on R0 hb))
  have HB0 := hide B0
  have HS0 := hide (hS.below B0)
  have l0 : w.heap.size < W0.heap.size := R0.lt
  have FBX := hide (fun (wx : World) (hb : Below w.heap.size w wx) (la : Option Addr) (lc : Nat) (l : List Int) (h1 : SeesU wx la l) (h2 : Wd l) (h3 : l.length ≤ 35184372088832) => firstBad_ok (cb := a.cb) (lc := lc) (hS.ob.below hb) hB.bd h1 h2 h3)
  have LI := hide (fun (wx : World) (hb : Below w.heap.size w wx) => live_ok (hS.below hb) hB)
  have UPW := hide (fun (wx : World) (hb : Below W0.heap.size W0 wx) => show Below w.heap.size w wx from HB0.out.trans (hb.mono HB0.out.size))
  have HBv := hide hB
  have hno := hB.bd.no
  have hnr := hB.nr
  have hnq := hB.nq
  clear hS hB B0 R0
  obtain ⟨ph, co, ro, aa, na, ca, ra, cr, wa, nw, cw, oa, cb, fa, nf, cf, ga, ng, cg, qa, cq, k0, k1, k2, k3⟩ := a
  simp only [vl] at LI ⊢
  simp only at hW0 VF HS0 FBX LI
  unfold Bt at LI
  obtain ⟨n, hn⟩ : ∃ n, c.os.length = n := ⟨_, rfl⟩
  obtain ⟨nr, hnre⟩ : ∃ nr, c.rs.length = nr := ⟨_, rfl⟩
  obtain ⟨nqz, hnqe⟩ : ∃ nqz, c.qu.length = nqz := ⟨_, rfl⟩
  simp only [hn, hnre, hnqe] at hW0 VF FBX LI hno hnr hnq ⊢
  have Hn := hide hn
  have Hnr := hide hnre
  have Hnq := hide hnqe
  obtain ⟨zz, hzz⟩ : ∃ z, sfl c = z := ⟨_, rfl⟩
  rw [hzz]
  have HZ := hide hzz
  clear hn hnre hnqe hzz
  have x4 := (VF.out W0 (Below.refl _ _)).2.2.2.2.1
  go_enter Try.func17, Try.ntmps17
  go_wp2_with fail
  clear hW0 x4
  go_loopw [15] (fun i wr => ∃ (k : Nat), k ≤ nr ∧ i = .int .i64 k ∧ Hid ((c.rs.take k).flatten.filter (bad c.os) = []) ∧ Hid (Below W0.heap.size W0 wr)) (fun i _ => nr - (intOf i).toNat)
  case atStart => exact ⟨0, Nat.zero_le _, rfl, (by simp : ((c.rs.take 0).flatten.filter (bad c.os)) = []), Below.refl _ _⟩
  case round =>
    obtain ⟨k, hk, rfl, HP, HB⟩ := hrel
    by_cases hlt : k < nr
    · have hkn : (k : Int) < (nr : Int) := by omega
      obtain ⟨r, hr⟩ : ∃ r, c.rs[k]? = some r := ⟨c.rs[k]'(by rw [Hnr.out]; exact hlt), by simp [Hnr.out, hlt]⟩
      obtain ⟨b, off, ai, ci, hra, hbl, hcc, hse⟩ := (HS0.out.below HB.out).rt k r hr
      simp only at hra
      subst hra
      have hrb := HBv.out.rl r (List.mem_of_getElem? hr)
      have x6 := (VF.out wr HB.out).2.2.2.2.2.2.1
      have FX := hide (FBX.out wr (UPW.out _ HB.out) ai ci r hse hrb.2 (by have := hrb.1; omega))
      have FF := fb_filter (os := c.os) (l := r)
      have FL := hide (flat_step hr)
      obtain ⟨fv, hfv⟩ : ∃ fv, fb c.os r = fv := ⟨_, rfl⟩
      rw [hfv] at FX FF
      have hfw : 0 ≤ fv ∧ fv < 18446744073709551616 := by
        rw [← hfv]
        unfold fb
        cases hf : r.find? (bad c.os) with
        | none => simp
        | some x => exact hrb.2 x (List.mem_of_find?_eq_some hf)
      have IX := hide (fun w1 => index_any fv hfw.1 hfw.2 w1)
      obtain ⟨m, hm⟩ : ∃ m, r.length = m := ⟨_, rfl⟩
      rw [hm] at hcc FX
      rcases FF with ⟨hf0, hfe⟩ | ⟨hf0, rr, hfe⟩
      · have g0 : (fv != 0) = false := by simp [hf0]
        have NN := hide (show (c.rs.take (k + 1)).flatten.filter (bad c.os) = [] by rw [FL.out, List.filter_append, HP.out, hfe]; rfl)
        clear hf0 hfe hr hse hrb hfv hm
        go_wp2_with (go_at_call 49; refine FX.out.mono ?_; rintro e w2 ⟨rfl, hb⟩; have HB2 := hide (HB.out.trans (hb.mono HB.out.size)); clear hb)
        go_roundw
        case rel => exact ⟨k + 1, by omega, by go_num, NN.out, HB2.out⟩
        case measure => simp [intOf]; omega
      · have g0 : (fv != 0) = true := by simp [hf0]
        have ZZ := hide (show ∃ t, zz = lo32 fv :: t by
          have e : c.rs = c.rs.take (k + 1) ++ c.rs.drop (k + 1) := (List.take_append_drop _ _).symm
          rw [← HZ.out]
          unfold sfl
          rw [e, List.flatten_append, FL.out, List.filter_append, List.filter_append, HP.out, hfe]
          exact ⟨_, rfl⟩)
        clear hf0 hfe hr hse hrb hfv hm hfw
        obtain ⟨t, ht⟩ := ZZ.out
        subst ht
        go_wp2_with (first | (go_at_call 49; refine FX.out.mono ?_; rintro e w2 ⟨rfl, hb⟩; have HB2 := hide (HB.out.trans (hb.mono HB.out.size)); clear hb) | (go_at_call 50; refine (IX.out _).mono ?_; rintro e w1 ⟨rfl, hq⟩; obtain rfl := hq.symm; clear hq))
        refine bodyPost_ret (v := .tuple #[.int .i64 (fv % 4294967296), .int .i64 150]) (by simp [results, Try.results17, go_sem, *]) rfl ?_
        exact ⟨rfl, UPW.out _ HB2.out⟩
    · have hkn : ¬ (k : Int) < (nr : Int) := by omega
      have HP1 := hide (show c.rs.flatten.filter (bad c.os) = [] by
        have := HP.out
        rw [List.take_of_length_le (by rw [Hnr.out]; omega)] at this
        exact this)
      have x9 := (VF.out wr HB.out).2.2.2.2.2.2.2.2.2.1
      obtain ⟨wo, rfl⟩ : ∃ wo, wo = wr := ⟨_, rfl⟩
      obtain rfl : k = nr := by omega
      clear hk hlt HP
      go_wp2_with fail
      clear x9 hkn
      go_loopw [31] (fun i wr => ∃ (j : Nat), j ≤ nqz ∧ i = .int .i64 j ∧ Hid ((c.qu.take j).filter (badq c.os) = []) ∧ wr = wo) (fun i _ => nqz - (intOf i).toNat)
      case atStart => exact ⟨0, Nat.zero_le _, rfl, (by simp : ((c.qu.take 0).filter (badq c.os)) = []), rfl⟩
      case round =>
        obtain ⟨j, hj, rfl, HQ, rfl⟩ := hrel
        by_cases hlt2 : j < nqz
        · have hjn : (j : Int) < (nqz : Int) := by omega
          obtain ⟨y, hy⟩ : ∃ y, c.qu[j]? = some y := ⟨c.qu[j]'(by rw [Hnq.out]; exact hlt2), by simp [Hnq.out, hlt2]⟩
          obtain ⟨b2, off2, ha2, hbl3, hc2⟩ := (HS0.out.below HB.out).qu j y hy
          simp only at ha2
          subst ha2
          have x6 := (VF.out wr HB.out).2.2.2.2.2.2.1
          have BQ := badq_val (os := c.os) (k := y)
          rw [Hn.out] at BQ
          have FS := hide (show (c.qu.take (j + 1)).filter (badq c.os) = (if badq c.os y then [y] else []) by rw [filt_step hy, HQ.out]; rfl)
          have ZZ := hide (show badq c.os y = true → ∃ t, zz = y :: t from fun hb => by
            have e : c.qu = c.qu.take (j + 1) ++ c.qu.drop (j + 1) := (List.take_append_drop _ _).symm
            rw [← HZ.out]
            unfold sfl
            rw [HP1.out]
            refine ⟨((c.qu.drop (j + 1)).filter (badq c.os)) ++ ((lv c.os (rts c) c.os.length).filter (bad c.os)).map lo32, ?_⟩
            conv => lhs; rw [e]
            rw [List.filter_append, FS.out, hb]
            simp)
          by_cases hyo : 1 ≤ y ∧ y ≤ (n : Int)
          · have IO := hide (fun w1 => isObj_yes (n := n) (oa := oa) (cb := cb) (w := w1) hyo)
            obtain ⟨q, rfl⟩ : ∃ q : Nat, y = (q : Int) + 1 := ⟨y.toNat - 1, by omega⟩
            have hq : q < n := by omega
            have hq2 : (q : Int) < (n : Int) := by omega
            obtain ⟨o, ho⟩ : ∃ o, c.os[q]? = some o := ⟨c.os[q]'(by rw [Hn.out]; exact hq), by simp [Hn.out, hq]⟩
            obtain ⟨bo, off3, ai, ci, hoa, hbl4, hoc, hse⟩ := (HS0.out.below HB.out).ob q o ho
            simp only at hoa
            subst hoa
            have o0 := (Ob.cells9 hoc).1
            have hbv := BQ.1 q o rfl ho
            obtain ⟨us, hus⟩ : ∃ us, o.us = us := ⟨_, rfl⟩
            rw [hus] at o0 hbv
            clear hoc hse ho hus hyo BQ hy
            cases us
            · obtain ⟨t, ht⟩ := ZZ.out (by rw [hbv]; rfl)
              subst ht
              go_wp2_with (go_at_call 51; refine (IO.out _).mono ?_; rintro e w1 ⟨rfl, hq⟩; obtain rfl := hq.symm; clear hq)
              refine bodyPost_ret (v := .tuple #[.int .i64 ((q : Int) + 1), .int .i64 150]) (by simp [results, Try.results17, go_sem, *]) rfl ?_
              exact ⟨rfl, UPW.out _ HB.out⟩
            · have NN := hide (show (c.qu.take (j + 1)).filter (badq c.os) = [] by rw [FS.out, hbv]; rfl)
              clear hbv
              go_wp2_with (go_at_call 51; refine (IO.out _).mono ?_; rintro e w1 ⟨rfl, hq⟩; obtain rfl := hq.symm; clear hq)
              go_roundw
              case rel => exact ⟨j + 1, by omega, by go_num, NN.out, by first | rfl | trivial⟩
              case measure => simp [intOf]; omega
          · have IO := hide (fun w1 => isObj_no (n := n) (oa := oa) (cb := cb) (w := w1) hyo)
            obtain ⟨t, ht⟩ := ZZ.out (BQ.2 hyo)
            subst ht
            clear hyo BQ hy
            go_wp2_with (go_at_call 51; refine (IO.out _).mono ?_; rintro e w1 ⟨rfl, hq⟩; obtain rfl := hq.symm; clear hq)
            refine bodyPost_ret (v := .tuple #[.int .i64 y, .int .i64 150]) (by simp [results, Try.results17, go_sem, *]) rfl ?_
            exact ⟨rfl, UPW.out _ HB.out⟩
        · have hjn : ¬ (j : Int) < (nqz : Int) := by omega
          have HQ1 := hide (show c.qu.filter (badq c.os) = [] by
            have := HQ.out
            rw [List.take_of_length_le (by rw [Hnq.out]; omega)] at this
            exact this)
          obtain ⟨x0, x1, x2, x3, x4, x5, x6, x7, x8, x9, x10, x11, x12, x13⟩ := VF.out wr HB.out
          obtain rfl : j = nqz := by omega
          clear hj hlt2 HQ
          go_upto_region 15 with (go_at_call 22; refine (LI.out _ (UPW.out _ HB.out)).mono ?_; rintro e w7 ⟨gr, rfl, hgr, hrow, hb⟩; have HR7 := hide hrow; have HB7 := hide (HB.out.trans (hb.mono HB.out.size)); clear hrow hb)
          clear x0 x1 x2 x3 x4 x5 x6 x7 x8 x9 x10 x11 x12 x13 hjn
          go_loopw [55] (fun i wr => ∃ (i' : Nat), i' ≤ n ∧ i = .int .i64 i' ∧ Hid ((lv c.os (rts c) i').filter (bad c.os) = []) ∧ Hid (Below w7.heap.size w7 wr)) (fun i _ => n - (intOf i).toNat)
          case atStart => exact ⟨0, Nat.zero_le _, rfl, (rfl : (lv c.os (rts c) 0).filter (bad c.os) = []), Below.refl _ _⟩
          case round =>
            obtain ⟨i', hi', rfl, HV, HBv2⟩ := hrel
            have HBW := hide (show Below W0.heap.size W0 wr from HB7.out.trans (HBv2.out.mono HB7.out.size))
            by_cases hlt3 : i' < n
            · have hin : (i' : Int) < (n : Int) := by omega
              have rx := (HBv2.out.cell (p := ⟨gr, i', none⟩) HR7.out.lt).trans (HR7.out.cell hlt3)
              obtain ⟨lb, hlb⟩ : ∃ b, rb c.os (rts c) i' = b := ⟨_, rfl⟩
              rw [hlb] at rx
              have LS := hide (show lv c.os (rts c) (i' + 1) = lv c.os (rts c) i' ++ (if lb then sls c.os i' else []) by rw [← hlb]; rfl)
              have LSt := hide (show lb = true → lv c.os (rts c) (i' + 1) = lv c.os (rts c) i' ++ sls c.os i' from fun h => by rw [LS.out, if_pos h])
              clear hlb
              cases lb
              · have NN := hide (show (lv c.os (rts c) (i' + 1)).filter (bad c.os) = [] by rw [LS.out, List.filter_append, HV.out]; rfl)
                go_wp2_with fail
                go_roundw
                case rel => exact ⟨i' + 1, by omega, by go_num, NN.out, HBv2.out⟩
                case measure => simp [intOf]; omega
              · obtain ⟨o, ho⟩ : ∃ o, c.os[i']? = some o := ⟨c.os[i']'(by rw [Hn.out]; exact hlt3), by simp [Hn.out, hlt3]⟩
                obtain ⟨bo, off3, ai, ci, hoa, hbl4, hoc, hse⟩ := (HS0.out.below HBW.out).ob i' o ho
                simp only at hoa
                subst hoa
                have o8 : wr.cell? ⟨bo, off3 + i' * 9 + 8, none⟩ = some (.slice ai o.sl.length ci) := hoc 8 (by decide)
                have hom := List.mem_of_getElem? ho
                have D1 : Below wr.heap.size wr wr.drew := ⟨rfl, rfl, rfl, Nat.le_refl _, fun _ _ => rfl⟩
                have DW : Below W0.heap.size W0 wr.drew := ⟨HBW.out.os, HBW.out.tape, HBW.out.output, HBW.out.size, HBW.out.block⟩
                have FX := hide (FBX.out wr.drew (UPW.out _ DW) ai ci o.sl (hse.below D1) (HBv.out.bd.sl o hom) (HBv.out.bd.ns o hom))
                have FF := fb_filter (os := c.os) (l := o.sl)
                obtain ⟨fv, hfv⟩ : ∃ fv, fb c.os o.sl = fv := ⟨_, rfl⟩
                rw [hfv] at FX FF
                have hfw : 0 ≤ fv ∧ fv < 18446744073709551616 := by
                  rw [← hfv]
                  unfold fb
                  cases hf : o.sl.find? (bad c.os) with
                  | none => simp
                  | some x => exact HBv.out.bd.sl o hom x (List.mem_of_find?_eq_some hf)
                have IX := hide (fun w1 => index_any fv hfw.1 hfw.2 w1)
                have Hsls := hide (sls_at ho)
                obtain ⟨m, hm⟩ : ∃ m, o.sl.length = m := ⟨_, rfl⟩
                rw [hm] at o8 FX
                have SF := hide (fun (wx : World) (hb : Below wr.heap.size wr wx) => show wx.cell? ⟨w.heap.size, 6, none⟩ = some (.slice (some ⟨bo, off3, none⟩) n cb) ∧ wx.cell? ⟨bo, off3 + i' * 9 + 8, none⟩ = some (.slice ai m ci) from ⟨(VF.out wx (HBW.out.trans (hb.mono HBW.out.size))).2.2.2.2.2.2.1, (hb.cell (p := ⟨bo, off3 + i' * 9 + 8, none⟩) hbl4).trans o8⟩)
                have K0 := SF.out wr.drew D1
                clear hoc hse ho hm hom hfv o8
                go_upto_region 18 with (fail)
                go_region_held (fun w' => w'.cell? ⟨w.heap.size, 6, none⟩ = some (.slice (some ⟨bo, off3, none⟩) n cb) ∧ w'.cell? ⟨bo, off3 + i' * 9 + 8, none⟩ = some (.slice ai m ci)) (first | exact K0 | exact K1) ((go_at_call 49; refine FX.out.mono ?_; rintro e w8 ⟨rfl, hb⟩; have HB8 := hide (D1.trans (hb.mono D1.size)); have K1 := SF.out w8 HB8.out; clear hb))
                clear K0 K1
                rcases FF with ⟨hf0, hfe⟩ | ⟨hf0, rr, hfe⟩
                · have g0 : (fv != 0) = false := by simp [hf0]
                  have NN := hide (show (lv c.os (rts c) (i' + 1)).filter (bad c.os) = [] by rw [LSt.out (by first | rfl | trivial), List.filter_append, HV.out, Hsls.out, hfe]; rfl)
                  clear hf0 hfe
                  go_wp2_with fail
                  go_roundw
                  case rel => exact ⟨i' + 1, by omega, by go_num, NN.out, HBv2.out.trans (HB8.out.mono HBv2.out.size)⟩
                  case measure => simp [intOf]; omega
                · have g0 : (fv != 0) = true := by simp [hf0]
                  have ZZ := hide (show ∃ t, zz = lo32 fv :: t by
                    obtain ⟨t, ht⟩ := lv_head (os := c.os) (fr := rts c) (n := c.os.length) (i := i') (by rw [Hn.out]; exact hlt3)
                    rw [← HZ.out]
                    unfold sfl
                    rw [HP1.out, HQ1.out, ht, List.filter_append, LSt.out (by first | rfl | trivial), List.filter_append, HV.out, Hsls.out, hfe]
                    exact ⟨_, rfl⟩)
                  clear hf0 hfe
                  obtain ⟨t, ht⟩ := ZZ.out
                  subst ht
                  go_wp2_with (go_at_call 50; refine (IX.out _).mono ?_; rintro e w1 ⟨rfl, hq⟩; obtain rfl := hq.symm; clear hq)
                  refine bodyPost_ret (v := .tuple #[.int .i64 (fv % 4294967296), .int .i64 150]) (by simp [results, Try.results17, go_sem, *]) rfl ?_
                  exact ⟨rfl, UPW.out _ (HBW.out.trans (HB8.out.mono HBW.out.size))⟩
            · have hin : ¬ (i' : Int) < (n : Int) := by omega
              have ZE := hide (show zz = [] by
                obtain rfl : i' = n := by omega
                rw [← HZ.out]
                unfold sfl
                rw [HP1.out, HQ1.out, Hn.out, HV.out]
                rfl)
              obtain rfl := ZE.out
              go_wp2_with fail
              refine bodyPost_ret (v := .tuple #[.int .i64 0, .int .i64 0]) (by simp [results, Try.results17, go_sem, *]) rfl ?_
              exact ⟨rfl, UPW.out _ HBW.out⟩
end Hu
end Go.Proofs.Ytcjlbecmghaalaa
