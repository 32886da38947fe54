/-
  Hue: HueStrong's walk
-/
import Derived.Test.YtnodkeoikamonabHuL
import Derived.Test.YtnodkeoikamonabHuP
namespace Go.Proofs.Ytnodkeoikamonab
open Go.RowKit
set_option linter.unusedVariables false
set_option linter.unusedSimpArgs false
set_option linter.unnecessarySimpa false
set_option maxRecDepth 20000
namespace Hu
open Gr
theorem news_n {w : World} {ao : Option Addr} {l : List Int} (h : SeesN w ao l) : ∀ ad, ao = some ad → ∀ j u, (ncs l)[j]? = some u → w.cell? (ad.add j) = some u := by
  intro ad hao j u hu
  have hj : j < l.length := by have := (List.getElem?_eq_some_iff.1 hu).1; simpa [ncs] using this
  obtain ⟨x, hx⟩ : ∃ x, l[j]? = some x := ⟨l[j], by simp [hj]⟩
  obtain ⟨b, off, he, hbl, hcc⟩ := h j x hx
  rw [hao] at he
  cases he
  rw [ncs_get hx] at hu
  cases hu
  rw [Go.WideShapes.add_plain]
  exact hcc
theorem own_nil {w : World} {lo : Nat} {e : TypeId} {ao : Option Addr} {n cap : Nat} {xs : List Value} (h : w.ownsRow lo e 1 (.slice ao n cap) n xs) : ao = none → n = 0 ∧ cap = 0 := by
  rintro rfl
  obtain ⟨hl, ⟨h1, h2⟩ | ⟨g, cap', cur, h1, _⟩⟩ := h
  · simp at h1; omega
  · cases h1

set_option maxHeartbeats 8000000 in
theorem strong_walk {c : Vc} {a : Av} {w : World} {gl bs : List Int} {ba : Option Addr} {bc : Nat} (h0 : H0 w c a gl ba bs) : Calls Try.prog 4 #[vl c a, .slice ba bs.length bc] w fun e w' => e = .returned (.bool true) ∧ Below w.heap.size w w' := by
  obtain ⟨W0, hW0, B0, R0⟩ := vbox w c a
  have VF := hide (fun (wx : World) (hb : Below W0.heap.size W0 wx) => vcells (row_on R0 hb))
  have HB0 := hide B0
  have HSb := hide (h0.s.below B0)
  have GR := hide (fun (wx : World) (hb : Below w.heap.size w wx) => great_ok (bc := bc) (w := wx) ⟨h0.s.below hb, h0.b, h0.n.below hb, h0.cb, h0.no, h0.ng, h0.g.below hb, h0.l.below hb, h0.gl, h0.bl⟩)
  have HY := hide (fun (hs : Sm c gl bs) (wx : World) (hb : Below w.heap.size w wx) => h0.hy hs hb)
  have ST := hide (fun (hs : Sm c gl bs) (wx : World) (hb : Below w.heap.size w wx) => strong_ok (bc := bc) (h0.hy hs hb))
  have WK := hide (fun (hs : Sm c gl bs) (wx : World) (hb : Below w.heap.size w wx) => weak_ok (bc := bc) (h0.hy hs hb))
  have SO := hide (fun (hs : Sm c gl bs) (wx : World) (hb : Below w.heap.size w wx) => sorts_ok (bc := bc) (h0.hy hs hb))
  have UPW := hide (fun (wx : World) (hb : Below W0.heap.size W0 wx) => show Below w.heap.size w wx from HB0.out.trans (hb.mono HB0.out.size))
  have hno := h0.no
  have SME := hide (fun (hs : Sm c gl bs) => hs.a)
  have l0 : w.heap.size < W0.heap.size := R0.lt
  clear h0 B0 R0
  obtain ⟨ph, co, ro, aa, na, ca, ra, cr, wa, nw, cw, oa, cb, fa, nf, cf, ga, ng, cg, qa, cq, k0, k1, k2, k3⟩ := a
  simp only [vl] at GR ST WK SO ⊢
  simp only at hW0 VF GR ST WK SO HSb
  unfold Gt at GR
  unfold Tt at SO
  obtain ⟨n, hn⟩ : ∃ n, c.os.length = n := ⟨_, rfl⟩
  obtain ⟨nr, hnre⟩ : ∃ nr, c.rs.length = nr := ⟨_, rfl⟩
  obtain ⟨nqz, hnqe⟩ : ∃ nqz, c.qu.length = nqz := ⟨_, rfl⟩
  obtain ⟨nbs, hnbs⟩ : ∃ nbs, bs.length = nbs := ⟨_, rfl⟩
  obtain ⟨ws, hws⟩ : ∃ ws, gl ++ bs = ws := ⟨_, rfl⟩
  obtain ⟨os, hos⟩ : ∃ os, c.os = os := ⟨_, rfl⟩
  rw [hos] at HSb hn
  simp only [hos, hws] at ST WK SO SME
  simp only [hn, hos, hnre, hnqe, hnbs] at hW0 VF GR ST WK SO hno SME ⊢
  have Hn := hide hn
  clear hn hnre hnqe hos hnbs hws
  obtain ⟨iI, hiI, hzI, hsI, hyI⟩ := infoI
  have hmk := run_make_row' (P := Try.prog) 42 4 _ 1 Try.underlying42 infoBb rfl .i64 .i64 n (by omega) (by omega)
  go_enter Try.func4, Try.ntmps4
  go_upto_region 3 with (go_at_call 9; refine (awake_ok).mono ?_; rintro e w1 ⟨rfl, hb⟩; have HB1 := hide hb; clear hb)
  clear hW0
  obtain ⟨x0, x1, x2, x3, x4, x5, x6, x7, x8, x9, x10, x11, x12, x13⟩ := VF.out w1 HB1.out
  go_upto_if 21 with (go_at_call 10; refine (GR.out _ (UPW.out _ HB1.out)).mono ?_; rintro e w2 ⟨v, rfl, hsm, hb⟩; have HSM := hide hsm; have HB2 := hide (HB1.out.trans (hb.mono HB1.out.size)); clear hsm hb)
  cases v
  case true =>
    go_wp2_with fail
    go_ret
    exact ⟨rfl, UPW.out _ HB2.out⟩
  case false =>
    have hsm := HSM.out rfl
    have hs3 := SME.out hsm
    have ST2 := hide (ST.out hsm)
    have WK2 := hide (WK.out hsm)
    have SO2 := hide (SO.out hsm)
    have HSWK := hide (show fs (stp os ws) n = 0 → fs (wkp os ws) n = 0 by rw [← Hn.out]; exact strong_weak)
    obtain ⟨rS, hrS⟩ : ∃ r, fs (stp os ws) n = r := ⟨_, rfl⟩
    obtain ⟨rW, hrW⟩ : ∃ r, fs (wkp os ws) n = r := ⟨_, rfl⟩
    rw [hrS] at ST2
    rw [hrW] at WK2
    rw [hrS, hrW] at HSWK
    obtain ⟨eS, heS⟩ : ∃ e, er rS = e := ⟨_, rfl⟩
    obtain ⟨eW, heW⟩ : ∃ e, er rW = e := ⟨_, rfl⟩
    rw [heS] at ST2
    rw [heW] at WK2
    have HEQ := hide (show (eS ≠ 0) ∨ (eS = 0 ∧ eW = 0) by
      by_cases hr : rS = 0
      · exact .inr ⟨by rw [← heS, er0 hr], by rw [← heW, er0 (HSWK.out hr)]⟩
      · exact .inl (by rw [← heS, er1 hr]; omega))
    have NL := hide (show nb os ws 1 n ++ nb os ws 2 n ++ nb os ws 3 n = al3 os ws by rw [← Hn.out]; rfl)
    have AT := hide (fun (k : Nat) (x : Int) (h : (al3 os ws)[k]? = some x) => al3_at h)
    simp only [Hn.out] at AT
    have LL := al3_len os ws
    rw [Hn.out] at LL
    obtain ⟨l1, hl1⟩ : ∃ l, nb os ws 1 n = l := ⟨_, rfl⟩
    obtain ⟨l2, hl2⟩ : ∃ l, nb os ws 2 n = l := ⟨_, rfl⟩
    obtain ⟨l3, hl3⟩ : ∃ l, nb os ws 3 n = l := ⟨_, rfl⟩
    rw [hl1, hl2, hl3] at SO2 NL
    rw [hl1] at AT
    obtain ⟨n1, hn1⟩ : ∃ m, l1.length = m := ⟨_, rfl⟩
    obtain ⟨n2, hn2⟩ : ∃ m, l2.length = m := ⟨_, rfl⟩
    obtain ⟨n3, hn3⟩ : ∃ m, l3.length = m := ⟨_, rfl⟩
    have h123 : n1 + n2 + n3 ≤ 3 * n := by
      rw [← hn1, ← hn2, ← hn3, ← List.length_append, ← List.length_append, NL.out]; exact LL
    have HLN := hide (show (al3 os ws).length = n1 + n2 + n3 by rw [← NL.out, List.length_append, List.length_append, hn1, hn2, hn3])
    rw [hn1, hn2, hn3] at SO2
    rw [hn1] at AT
    have HE := hide (And.intro hn1 (And.intro hn2 hn3))
    have hn3k : n ≤ 3000 := by omega
    clear hl1 hl2 hl3 hn1 hn2 hn3 hrS hrW heS heW hsm HSWK ST WK SO HSM GR LL SME hs3
    go_upto_region 5 with (fail)
    clear x0 x1 x2 x3 x4 x5 x6 x7 x8 x9 x10 x11 x12 x13
    obtain ⟨x0, x1, x2, x3, x4, x5, x6, x7, x8, x9, x10, x11, x12, x13⟩ := VF.out w2 HB2.out
    go_upto_region 6 with (go_at_call 15; refine (ST2.out _ (UPW.out _ HB2.out)).mono ?_; rintro e w3 ⟨rfl, hb⟩; have HB3 := hide (HB2.out.trans (hb.mono HB2.out.size)); clear hb)
    clear x0 x1 x2 x3 x4 x5 x6 x7 x8 x9 x10 x11 x12 x13
    obtain ⟨x0, x1, x2, x3, x4, x5, x6, x7, x8, x9, x10, x11, x12, x13⟩ := VF.out w3 HB3.out
    go_upto_region 7 with (go_at_call 16; refine (WK2.out _ (UPW.out _ HB3.out)).mono ?_; rintro e w4 ⟨rfl, hb⟩; have HB4 := hide (HB3.out.trans (hb.mono HB3.out.size)); clear hb)
    clear x0 x1 x2 x3 x4 x5 x6 x7 x8 x9 x10 x11 x12 x13 HB3 HB2 HB1
    go_cut [39] from 34 to 38 (fun s wx => s = .bool false ∧ wx = w4)
    case first =>
      rcases HEQ.out with hr | ⟨hr, hw⟩
      · have e1 : (eS == 0) = false := by simp [hr]
        clear hr
        go_wp2_with fail
        go_meet
        exact ⟨rfl, rfl⟩
      · have e1 : (eS == 0) = true := by simp [hr]
        have e2 : (eW != 0) = false := by simp [hw]
        clear hr hw
        go_wp2_with fail
        go_meet
        exact ⟨rfl, rfl⟩
    case rest =>
      obtain ⟨e39, ewc⟩ := hcut
      subst e39
      subst ewc
      go_upto_region 9 with (fail)
      obtain ⟨x0, x1, x2, x3, x4, x5, x6, x7, x8, x9, x10, x11, x12, x13⟩ := VF.out wc HB4.out
      go_upto_region 10 with (go_at_call 18; refine (SO2.out _ (UPW.out _ HB4.out)).mono ?_; rintro e w5 ⟨a1, c1, a2, c2, a3, c3, rfl, ho1, ho2, ho3, hb⟩; have O1 := hide ho1; have O2 := hide ho2; have O3 := hide ho3; have HB5 := hide (HB4.out.trans (hb.mono HB4.out.size)); clear ho1 ho2 ho3 hb)
      clear x0 x1 x2 x3 x4 x5 x6 x7 x8 x9 x10 x11 x12 x13
      have hz5 : W0.heap.size ≤ w5.heap.size := HB5.out.size
      have NIL1 := hide (own_nil O1.out)
      have NIL2 := hide (own_nil O2.out)
      have NIL3 := hide (own_nil O3.out)
      have G1 := hide (own_seesN O1.out)
      have G2 := hide (own_seesN O2.out)
      have G3 := hide (own_seesN O3.out)
      have NL1 := hide (show (ncs l1).length = n1 * 1 by rw [ncs_len, HE.out.1]; omega)
      have NL2 := hide (show (ncs l2).length = n2 * 1 by rw [ncs_len, HE.out.2.1]; omega)
      have NL3 := hide (show (ncs l3).length = n3 * 1 by rw [ncs_len, HE.out.2.2]; omega)
      clear O1 O2 O3
      go_upto_region 11 with (first
        | (at_builtin; refine wpList_append_opt rfl (.tmp 47) (.tmp 48) 26 rfl w5.heap.size 3 iI (.int .i64 0) 1 8 Try.underlying26 hiI hzI hsI hyI rfl (by decide) (.slice (some ⟨w5.heap.size, 0, none⟩) 0 0) 0 [] rfl (by have := World.ownsRow_lit (base := w5.heap.size) (e := 3) (size := 1) w5 #[] 0 (by simp) (by unfold maxLen; omega) rfl; simpa using this) a1 n1 c1 (ncs l1) rfl NIL1.out NL1.out (news_n (G1.out.below ((Below.refl _ w5).alloc (Nat.le_refl _) _))) (ncs_one _) (by unfold maxLen; omega) (by omega) (by simp) ?_; intro v6 w6 hown6 hgr6 _; rw [Nat.zero_add, List.nil_append] at hown6; obtain ⟨la6, cp6, rfl⟩ := own_slice hown6; have O6 := hide hown6; have B6 := hide (show Below w5.heap.size w5 w6 from ((Below.refl _ w5).alloc (Nat.le_refl _) (.cells #[] 3)).grown hgr6 (by simp) (by simp [Value.ownBlock])); have hz6 : w5.heap.size ≤ w6.heap.size := B6.out.size; clear hown6 hgr6)
        | (at_builtin; refine wpList_append_opt rfl (.tmp 49) (.tmp 50) 26 rfl w5.heap.size 3 iI (.int .i64 0) 1 8 Try.underlying26 hiI hzI hsI hyI rfl (by decide) (.slice la6 n1 cp6) n1 (ncs l1) rfl O6.out a2 n2 c2 (ncs l2) rfl NIL2.out NL2.out (news_n (G2.out.below B6.out)) (ncs_one _) (by unfold maxLen; omega) (by omega) hz6 ?_; intro v7 w7 hown7 hgr7 _; obtain ⟨la7, cp7, rfl⟩ := own_slice hown7; have O7 := hide hown7; have B7 := hide (Gr.below_grown B6.out O6.out hgr7 hz6); have hz7 : w5.heap.size ≤ w7.heap.size := B7.out.size; clear hown7 hgr7)
        | (at_builtin; refine wpList_append_opt rfl (.tmp 51) (.tmp 52) 26 rfl w5.heap.size 3 iI (.int .i64 0) 1 8 Try.underlying26 hiI hzI hsI hyI rfl (by decide) (.slice la7 (n1 + n2) cp7) (n1 + n2) (ncs l1 ++ ncs l2) rfl O7.out a3 n3 c3 (ncs l3) rfl NIL3.out NL3.out (news_n (G3.out.below B7.out)) (ncs_one _) (by unfold maxLen; omega) (by omega) hz7 ?_; intro v8 w8 hown8 hgr8 _; obtain ⟨la8, cp8, rfl⟩ := own_slice hown8; have O8 := hide hown8; have B8 := hide (Gr.below_grown B7.out O7.out hgr8 hz7); have hz8 : w5.heap.size ≤ w8.heap.size := B8.out.size; clear hown8 hgr8))
      have SL := hide (show SeesN w8 la8 (al3 os ws) by
        have h := O8.out
        rw [← ncs_app, ← ncs_app, NL.out] at h
        exact own_seesN h)
      have HB8 := hide (show Below W0.heap.size W0 w8 from HB5.out.trans (B8.out.mono hz5))
      obtain ⟨nL, hnL⟩ : ∃ m, n1 + n2 + n3 = m := ⟨_, rfl⟩
      rw [hnL] at h123 HLN ⊢
      clear hnL O6 O7 O8 B6 B7 B8 NIL1 NIL2 NIL3 G1 G2 G3 NL1 NL2 NL3 hz6 hz7 NL HE
      have x6 := (VF.out w8 HB8.out).2.2.2.2.2.2.1
      obtain ⟨W9, hW9⟩ : ∃ W9, w8.alloc (.cells (madeCells #[.bool false] n) 4) = W9 := ⟨_, rfl⟩
      obtain ⟨gs, hgs⟩ : ∃ g, w8.heap.size = g := ⟨_, rfl⟩
      have R9 := hide (show W9.rowIs gs 4 n (fun _ => .bool false) by rw [← hW9, ← hgs]; exact rows_made _ _ _ _)
      have B9 := hide (show Below gs w8 W9 by rw [← hW9, ← hgs]; exact (Below.refl _ w8).alloc (Nat.le_refl _) _)
      have hgs0 : W0.heap.size ≤ gs := by omega
      have UP8 := hide (fun (wx : World) (hb : Below gs w8 wx) => show Below W0.heap.size W0 wx from HB8.out.trans (hb.mono hgs0))
      have SLX := hide (fun (wx : World) (hb : Below gs w8 wx) => SL.out.below (w' := wx) (by rw [hgs]; exact hb))
      go_wp2_with fail
      clear x6 hmk hW9 hgs
      go_loopw [14] (fun i wr => ∃ (k : Nat), k ≤ nL ∧ i = .int .i64 k ∧ Hid (wr.rowIs gs 4 n (fun j => .bool (decide ((j : Int) + 1 ∈ (al3 os ws).take k)))) ∧ Hid (Below gs w8 wr)) (fun i _ => nL - (intOf i).toNat)
      case atStart => exact ⟨0, Nat.zero_le _, rfl, R9.out.congr (fun i hi => by simp), B9.out⟩
      case round =>
        obtain ⟨k, hk, rfl, HR, HB⟩ := hrel
        have HBW := hide (UP8.out wr HB.out)
        by_cases hlt : k < nL
        · have hkn : (k : Int) < (nL : Int) := by omega
          obtain ⟨x, hx⟩ : ∃ x, (al3 os ws)[k]? = some x := ⟨(al3 os ws)[k]'(by rw [HLN.out]; exact hlt), by simp [HLN.out, hlt]⟩
          obtain ⟨q, o, rfl, hoq, hus, hli⟩ := AT.out k x hx
          obtain ⟨bl, offl, hla, hbll, hcl⟩ := SLX.out wr HB.out k _ hx
          subst hla
          have hq : q < n := by rw [← Hn.out]; exact (List.getElem?_eq_some_iff.1 hoq).1
          have hq2 : (q : Int) < (n : Int) := by omega
          obtain ⟨bo, off, ai, ci, hoa, hbl2, hoc, hse⟩ := HSb.out.below HBW.out q o hoq
          subst hoa
          have oc := Ob.cells9 hoc
          have o0 := oc.1
          have o1 := oc.2.1
          rw [hus] at o0
          rw [hli] at o1
          have sR := HR.out.cell hq
          have fR := HR.out.frozen q
          have hnew : decide ((q : Int) + 1 ∈ (al3 os ws).take k) = false := by simpa using al3_new hx
          rw [hnew] at sR
          have NX := hide (fun (j : Nat) => show (if j = q then Value.bool true else .bool (decide ((j : Int) + 1 ∈ (al3 os ws).take k))) = .bool (decide ((j : Int) + 1 ∈ (al3 os ws).take (k + 1))) by
            rw [List.take_add_one, hx]
            by_cases e : j = q
            · subst e; simp
            · have : ¬ (j : Int) = (q : Int) := by omega
              simp [e, this])
          have x6 := (VF.out wr HBW.out).2.2.2.2.2.2.1
          have t1 : ¬ ((q : Int) + 1 < 1) := by omega
          have t2 : ¬ ((n : Int) < (q : Int) + 1) := by omega
          clear hx hnew hoc hse oc hoq hus hli
          by_cases h1 : n1 ≤ k
          · have h1d : decide (n1 ≤ k) = true := by simp [h1]
            have h1i : (n1 : Int) ≤ (k : Int) := by omega
            rw [h1d] at o1
            clear h1 h1d
            go_wp2_with fail
            go_roundw
            case rel => exact ⟨k + 1, by omega, by go_num, (HR.out.set q _).congr (fun i hi => NX.out i), HB.out.setCell (by simp) _⟩
            case measure => simp [intOf]; omega
          · have h1d : decide (n1 ≤ k) = false := by simp [h1]
            have h1i : ¬ (n1 : Int) ≤ (k : Int) := by omega
            rw [h1d] at o1
            clear h1 h1d
            go_wp2_with fail
            go_roundw
            case rel => exact ⟨k + 1, by omega, by go_num, (HR.out.set q _).congr (fun i hi => NX.out i), HB.out.setCell (by simp) _⟩
            case measure => simp [intOf]; omega
        · have hkn : ¬ (k : Int) < (nL : Int) := by omega
          have HR2 := hide (show wr.rowIs gs 4 n (fun j => .bool (decide ((j : Int) + 1 ∈ al3 os ws))) from HR.out.congr (fun j hj => by
            rw [List.take_of_length_le (by rw [HLN.out]; omega)]))
          obtain ⟨wo, rfl⟩ : ∃ wo, wo = wr := ⟨_, rfl⟩
          obtain rfl : k = nL := by omega
          clear hk hlt
          go_wp2_with fail
          clear hkn
          go_loopw [16] (fun i wr => ∃ (j m : Nat), j ≤ n ∧ i = .int .i64 j ∧ wr = wo.drewN m) (fun i _ => n - (intOf i).toNat)
          case atStart => exact ⟨0, 0, Nat.zero_le _, rfl, rfl⟩
          case round =>
            obtain ⟨j, m, hj, rfl, rfl⟩ := hrel
            by_cases hlt2 : j < n
            · have hjn : (j : Int) < (n : Int) := by omega
              obtain ⟨o, ho⟩ : ∃ o, os[j]? = some o := ⟨os[j]'(by rw [Hn.out]; exact hlt2), by simp [Hn.out, hlt2]⟩
              obtain ⟨bo, off, ai, ci, hoa, hbl2, hoc, hse⟩ := HSb.out.below HBW.out j o ho
              subst hoa
              have o0 := (Ob.cells9 hoc).1
              have sR := HR2.out.cell hlt2
              have hmem : decide ((j : Int) + 1 ∈ al3 os ws) = o.us := by
                have := al3_mem (ws := ws) ho
                cases hu : o.us with
                | true => rw [hu] at this; simpa using this
                | false => rw [hu] at this; simpa using this
              rw [hmem] at sR
              have x6 := (VF.out wo HBW.out).2.2.2.2.2.2.1
              obtain ⟨u, hu⟩ : ∃ u, o.us = u := ⟨_, rfl⟩
              rw [hu] at o0 sR
              have hnn : (u != u) = false := by simp
              clear hoc hse ho hmem hu
              go_upto_region 22 with (fail)
              go_quiet (fail)
              go_wp2_with fail
              go_roundw
              case rel => exact ⟨j + 1, _, by omega, by go_num, rfl⟩
              case measure => simp [intOf]; omega
            · have hjn : ¬ (j : Int) < (n : Int) := by omega
              go_wp2_with fail
              go_ret
              exact ⟨rfl, below_drewN (UPW.out _ HBW.out) _⟩
end Hu
end Go.Proofs.Ytnodkeoikamonab
