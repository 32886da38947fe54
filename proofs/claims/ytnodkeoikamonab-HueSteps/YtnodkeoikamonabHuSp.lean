/-
  Hue: HueSteps' walk
-/
import Derived.Test.YtnodkeoikamonabHuSo
namespace Go.Proofs.Ytnodkeoikamonab
open Go.RowKit
set_option linter.unusedVariables false
set_option linter.unusedSimpArgs false
set_option linter.unnecessarySimpa false
set_option maxRecDepth 20000
namespace Hu
open Gr
theorem nil_lenN {w : World} {ao : Option Addr} {l : List Int} (h : SeesN w ao l) (hao : ao = none) : l.length = 0 := by
  cases l with
  | nil => rfl
  | cons x r =>
    obtain ⟨b, off, he, _⟩ := h 0 x rfl
    rw [hao] at he
    cases he

set_option maxHeartbeats 100000000 in
theorem steps_main {c : Vc} {a : Av} {w : World} {gl bs : List Int} {ba : Option Addr} {bc : Nat} (h0 : H0 w c a gl ba bs) (wi sl0 hh : Int) (hnb : ba = none → bc = 0) (hwi : -9223372036854775808 ≤ wi ∧ wi ≤ 9223372036854775807) (hsl : -9223372036854775808 ≤ sl0 ∧ sl0 ≤ 9223372036854775807) (hhb : 0 ≤ hh ∧ hh < 18446744073709551616) {q : Nat} {o : Ob} (ho : c.os[q]? = some o) (hmod : (wq wi).tmod (c.os.length : Int) = (q : Int)) : Calls Try.prog 6 #[vl c a, .slice ba bs.length bc, .int .i64 wi, .int .i64 sl0, .int .u64 hh] w fun e w' => e = .returned (.bool true) ∧ Below w.heap.size w w' := by
  have hq : q < c.os.length := (List.getElem?_eq_some_iff.1 ho).1
  have hom := List.mem_of_getElem? ho
  obtain ⟨W0, hW0, B0, R0⟩ := vbox w c a
  have VF := hide (fun (wx : World) (hb : Below W0.heap.size W0 wx) => vcells (row_on R0 hb))
  have HB0 := hide B0
  have HSb := hide (h0.s.below B0)
  have HNb := hide (h0.n.below B0)
  have HLb := hide (h0.l.below B0)
  have GR := hide (fun (wx : World) (hb : Below w.heap.size w wx) => great_ok (bc := bc) (w := wx) ⟨h0.s.below hb, h0.b, h0.n.below hb, h0.cb, h0.no, h0.ng, h0.g.below hb, h0.l.below hb, h0.gl, h0.bl⟩)
  have UPW := hide (fun (wx : World) (hb : Below W0.heap.size W0 wx) => show Below w.heap.size w wx from HB0.out.trans (hb.mono HB0.out.size))
  have hno := h0.no
  have hbl := h0.bl
  have hng := h0.ng
  have HWs := hide (h0.b.sl o hom)
  have hml := h0.b.ns o hom
  have HNIL := hide (show ba = none → bs.length = 0 ∧ bc = 0 from fun e => ⟨nil_lenN h0.l e, hnb e⟩)
  have ST0 := hide (fun (hs : Sm c gl bs) (wx : World) (hb : Below w.heap.size w wx) => st_old (mc := bc) (h0.hy hs hb))
  have WK0 := hide (fun (hs : Sm c gl bs) (wx : World) (hb : Below w.heap.size w wx) => wk_old (mc := bc) (h0.hy hs hb))
  have HY1 := hide (fun (hs : Sm c gl bs) (wx : World) (hb : Below w.heap.size w wx) (la : Option Addr) (cp : Nat) (ma : Option Addr) (h1 : Sob wx la (c.os.set q { o with li := true })) (h2 : Ncp wx la (c.os.set q { o with li := true })) (h3 : la ≠ none) (h4 : SeesN wx ma (bs ++ [(q : Int) + 1])) => hyS (os' := c.os.set q { o with li := true }) (a := a) (cp := cp) (cg' := a.cg) h0 hs (by simp) (bd_set h0.b ho rfl (h0.b.sl o hom) rfl) (by rw [List.length_set]; exact nsl_set (o' := { o with li := true }) ho rfl _) h1 h2 (fun e => absurd e h3) (h0.g.below hb) h0.gl h4 (by have := hs.a; simp; omega))
  have K1 := hide (fun (hu : o.us = true) (hl : o.li = false) => show Kp c.os (c.os.set q { o with li := true }) (gl ++ bs) (gl ++ (bs ++ [(q : Int) + 1])) by rw [← List.append_assoc]; exact kp_shade ho hu hl)
  have ST1 := hide (fun (hs : Sm c gl bs) (hu : o.us = true) (hl : o.li = false) (wx : World) (hb : Below w.heap.size w wx) (la : Option Addr) (cp : Nat) (ma : Option Addr) (mc : Nat) (h1 : Sob wx la (c.os.set q { o with li := true })) (h2 : Ncp wx la (c.os.set q { o with li := true })) (h3 : la ≠ none) (h4 : SeesN wx ma (bs ++ [(q : Int) + 1])) => st_keep (mc := mc) (HY1.out hs wx hb la cp ma h1 h2 h3 h4) (K1.out hu hl))
  have WK1 := hide (fun (hs : Sm c gl bs) (hu : o.us = true) (hl : o.li = false) (wx : World) (hb : Below w.heap.size w wx) (la : Option Addr) (cp : Nat) (ma : Option Addr) (mc : Nat) (h1 : Sob wx la (c.os.set q { o with li := true })) (h2 : Ncp wx la (c.os.set q { o with li := true })) (h3 : la ≠ none) (h4 : SeesN wx ma (bs ++ [(q : Int) + 1])) => wk_keep (mc := mc) (HY1.out hs wx hb la cp ma h1 h2 h3 h4) (K1.out hu hl))
  have CH1 := hide (fun (wx : World) (hb : Below w.heap.size w wx) (us li : Bool) (ai : Option Addr) (ci : Nat) (sl : List Int) (h : SeesU wx ai sl) (hn : ai = none → ci = 0) => changed_ok (c := c) (a := a) (us := us) (li := li) (fi := o.fi) (ta := o.ta) (ag := o.ag) (ge := o.ge) (lk := o.lk) (nx := o.nx) (h0.s.below hb) (h0.n.below hb) h0.no hq h hn)
  have WG2 := hide (fun (wx : World) (hb : Below w.heap.size w wx) => without_ok (lc := a.cg) (h0.g.below hb) h0.gl ((q : Int) + 1))
  have WB2 := hide (fun (wx : World) (hb : Below w.heap.size w wx) => without_ok (lc := bc) (h0.l.below hb) h0.bl ((q : Int) + 1))
  have HY2 := hide (fun (hs : Sm c gl bs) (wx : World) (hb : Below w.heap.size w wx) (ga2 : Option Addr) (cg2 : Nat) (ma : Option Addr) (h4 : SeesN wx ga2 (wo gl ((q : Int) + 1))) (h5 : SeesN wx ma (wo bs ((q : Int) + 1))) => hyS (a := a) (cp := a.cb) (cg' := cg2) h0 hs rfl h0.b rfl (h0.s.below hb) (h0.n.below hb) h0.cb h4 (by have := wo_len gl ((q : Int) + 1); have := h0.gl; omega) h5 (by have := wo_len bs ((q : Int) + 1); have := h0.bl; omega))
  have K2 := hide (fun (hu : o.us = true) (hl : o.li = true) (hc : ∀ x ∈ o.sl, wh c.os (gl ++ bs) x = 0) => show Kp c.os c.os (gl ++ bs) (wo gl ((q : Int) + 1) ++ wo bs ((q : Int) + 1)) from kp_look ho hu hl hc (fun x => by
    simp only [List.mem_append, wo_mem]
    constructor
    · rintro (⟨h1, h2⟩ | ⟨h1, h2⟩)
      · exact ⟨.inl h1, h2⟩
      · exact ⟨.inr h1, h2⟩
    · rintro ⟨h1 | h1, h2⟩
      · exact .inl ⟨h1, h2⟩
      · exact .inr ⟨h1, h2⟩))
  have ST2 := hide (fun (hs : Sm c gl bs) (hu : o.us = true) (hl : o.li = true) (hc : ∀ x ∈ o.sl, wh c.os (gl ++ bs) x = 0) (wx : World) (hb : Below w.heap.size w wx) (ga2 : Option Addr) (cg2 : Nat) (ma : Option Addr) (mc : Nat) (h4 : SeesN wx ga2 (wo gl ((q : Int) + 1))) (h5 : SeesN wx ma (wo bs ((q : Int) + 1))) => st_keep (mc := mc) (HY2.out hs wx hb ga2 cg2 ma h4 h5) (K2.out hu hl hc))
  have WK2 := hide (fun (hs : Sm c gl bs) (hu : o.us = true) (hl : o.li = true) (hc : ∀ x ∈ o.sl, wh c.os (gl ++ bs) x = 0) (wx : World) (hb : Below w.heap.size w wx) (ga2 : Option Addr) (cg2 : Nat) (ma : Option Addr) (mc : Nat) (h4 : SeesN wx ga2 (wo gl ((q : Int) + 1))) (h5 : SeesN wx ma (wo bs ((q : Int) + 1))) => wk_keep (mc := mc) (HY2.out hs wx hb ga2 cg2 ma h4 h5) (K2.out hu hl hc))
  have WHX := hide (fun (wx : World) (hb : Below w.heap.size w wx) (u : Int) (hu : 0 ≤ u ∧ u < 18446744073709551616) => white_ok (a := a) (h0.s.below hb) h0.b (gl ++ bs) hu.1 hu.2)
  have WK3 := hide (fun (hs : Sm c gl bs) (s : Nat) (u : Int) (hu : o.sl[s]? = some u) (hu0 : wh c.os (gl ++ bs) u = 0) (hh0 : wh c.os (gl ++ bs) hh = 0) (wx : World) (hb : Below w.heap.size w wx) (la : Option Addr) (cp : Nat) (h1 : Sob wx la (c.os.set q { o with sl := o.sl.set s hh })) (h2 : Ncp wx la (c.os.set q { o with sl := o.sl.set s hh })) (h3 : la ≠ none) => wk_keep (mc := bc) (hyS (os' := c.os.set q { o with sl := o.sl.set s hh }) (a := a) (cp := cp) (cg' := a.cg) h0 hs (by simp) (bd_set h0.b ho (by simp) (wd_set (h0.b.sl o hom) hhb) rfl) (by rw [List.length_set]; exact nsl_set (o' := { o with sl := o.sl.set s hh }) ho (by simp) _) h1 h2 (fun e => absurd e h3) (h0.g.below hb) h0.gl (h0.l.below hb) h0.bl) (kp_slot ho hu hu0 hh0))
  have HSQ := hide (fun (wx : World) (hb : Below W0.heap.size W0 wx) => HSb.out.below hb q o ho)
  have HNQ := hide (fun (wx : World) (hb : Below W0.heap.size W0 wx) => HNb.out.below hb)
  have l0 : w.heap.size < W0.heap.size := R0.lt
  unfold Cht at CH1
  unfold Nt at WG2 WB2
  unfold Gt at GR
  clear B0 R0 HY1 HY2 K1 K2 h0 HNb HSb hnb hom
  obtain ⟨ph, co, ro, aa, na, ca, ra, cr, wa, nw, cw, oa, cb, fa, nf, cf, ga, ng, cg, qa, cq, k0, k1, k2, k3⟩ := a
  simp only [vl] at GR ST0 WK0 ST1 WK1 CH1 ST2 WK2 WHX WK3 ⊢
  simp only at hW0 VF GR ST0 WK0 ST1 WK1 CH1 ST2 WK2 WHX WK3 WG2 WB2 HSQ HNQ hng
  subst hng
  obtain ⟨us, li, fi, ta, ag, ge, lk, nx, sl⟩ := o
  simp only [List.length_set, List.length_append, List.length_singleton] at ST1 WK1 CH1 ST2 WK2 WK3 HSQ HNQ HWs hml
  obtain ⟨n, hn⟩ : ∃ n, c.os.length = n := ⟨_, rfl⟩
  obtain ⟨nr, hnre⟩ : ∃ nr, c.rs.length = nr := ⟨_, rfl⟩
  obtain ⟨nqz, hnqe⟩ : ∃ nqz, c.qu.length = nqz := ⟨_, rfl⟩
  obtain ⟨nbs, hnbs⟩ : ∃ nbs, bs.length = nbs := ⟨_, rfl⟩
  obtain ⟨ngl, hngl⟩ : ∃ ngl, gl.length = ngl := ⟨_, rfl⟩
  obtain ⟨n2g, hn2g⟩ : ∃ m, (wo gl ((q : Int) + 1)).length = m := ⟨_, rfl⟩
  obtain ⟨n2b, hn2b⟩ : ∃ m, (wo bs ((q : Int) + 1)).length = m := ⟨_, rfl⟩
  simp only [hn, hnre, hnqe, hnbs, hngl, hn2g, hn2b] at hW0 VF GR ST0 WK0 ST1 WK1 CH1 ST2 WK2 WK3 WHX WG2 WB2 hno hq hmod hbl HNIL ⊢
  have SME := hide (fun (hs : Sm c gl bs) => hs.a)
  simp only [hn, hnbs, hngl] at SME
  obtain ⟨zS, hzS⟩ : ∃ z : Prop, (fs (stp c.os (gl ++ bs)) n = 0) = z := ⟨_, rfl⟩
  obtain ⟨zW, hzW⟩ : ∃ z : Prop, (fs (wkp c.os (gl ++ bs)) n = 0) = z := ⟨_, rfl⟩
  simp only [hzS, hzW] at ST0 WK0 ST1 WK1 ST2 WK2 WK3
  unfold Sk0 at ST0 WK0
  unfold Sk at ST1 WK1 ST2 WK2 WK3
  have Hnbs := hide hnbs
  obtain ⟨m, hm⟩ : ∃ m, sl.length = m := ⟨_, rfl⟩
  have Hm := hide hm
  simp only [hm] at HSQ hml
  have Hmod := hide hmod
  have hn0b : ((n : Int) == 0) = false := by simp; omega
  have Hho := hide ho
  obtain ⟨iI, hiI, hzI, hsI, hyI⟩ := infoI
  obtain ⟨iU, hiU, hzU, hsU, hyU⟩ := infoU
  clear hn hnre hnqe hnbs hngl hn2g hn2b hzS hzW hm hmod ho
  go_enter Try.func6, Try.ntmps6
  go_upto_region 3 with (go_at_call 9; refine (awake_ok).mono ?_; rintro e w1 ⟨rfl, hb⟩; have HB1 := hide hb; clear hb)
  clear hW0
  obtain ⟨x0, x1, x2, x3, x4, x5, x6, x7, x8, x9, x10, x11, x12, x13⟩ := VF.out w1 HB1.out
  go_cut [44] from 36 to 43 (fun s wx => ∃ v, s = .bool v ∧ Hid (v = false → Sm c gl bs) ∧ Hid (Below W0.heap.size W0 wx))
  case first =>
    have AF := hide (fun (wx : World) (hb : Below W0.heap.size W0 wx) => (VF.out wx hb).2.2.2.2.2.2.1)
    go_wp2_with (go_at_call 10; refine (GR.out _ (UPW.out _ HB1.out)).mono ?_; rintro e w2 ⟨v, rfl, hsm, hb⟩; have HSM := hide hsm; have HB2 := hide (HB1.out.trans (hb.mono HB1.out.size)); have x62 := AF.out w2 HB2.out; clear hsm hb)
    all_goals go_meet
    · exact ⟨true, rfl, (fun h => by cases h), HB2.out⟩
    · exact ⟨false, rfl, (fun _ => HSM.out (by first | rfl | (simp_all; done))), HB2.out⟩
  case rest =>
    obtain ⟨v, e44, HSM, HB2⟩ := hcut
    subst e44
    clear x0 x1 x2 x3 x4 x5 x6 x7 x8 x9 x10 x11 x12 x13 HB1 GR
    obtain ⟨w2, rfl⟩ : ∃ w2, w2 = wc := ⟨_, rfl⟩
    cases v
    case true =>
      go_wp2_with fail
      go_ret
      exact ⟨rfl, UPW.out _ HB2.out⟩
    case false =>
      have sm := HSM.out rfl
      have sm3 := SME.out sm
      have ST0' := hide (ST0.out sm)
      have WK0' := hide (WK0.out sm)
      have ST1' := hide (ST1.out sm)
      have WK1' := hide (WK1.out sm)
      have ST2' := hide (ST2.out sm)
      have WK2' := hide (WK2.out sm)
      have WK3' := hide (WK3.out sm)
      have hn3k : n ≤ 3000 := by omega
      have hnb3 : nbs ≤ 3000 := by omega
      have hm3 : m ≤ 3000 := by
        have h1 := nsl_mono c.os (show q + 1 ≤ n from hq)
        simp only [nsl, sls_at Hho.out, Hm.out] at h1
        omega
      clear sm sm3 SME HSM ST0 WK0 ST1 WK1 ST2 WK2 WK3 hbl hno
      have HWI := hide hwi
      have HSLb := hide hsl
      clear hwi hsl
      go_upto_if 46 with (fail)
      go_cut [2] from 47 to 49 (fun s wx => s = .int .i64 (wq wi) ∧ wx = w2)
      case first =>
        have hwi := HWI.out
        by_cases hneg : wi < 0
        · have e1 : wrap64 (wi + 1) = wi + 1 := by unfold wrap64; omega
          have e2 : wrap64 (-(wi + 1)) = wq wi := by unfold wrap64 wq; rw [if_pos hneg]; omega
          clear hwi
          go_wp2_with fail
          go_meet
          exact ⟨by first | rfl | (rw [e2]; done) | (simp [e2]; done), rfl⟩
        · have e2 : wq wi = wi := by unfold wq; rw [if_neg hneg]
          clear hwi
          go_wp2_with fail
          go_meet
          exact ⟨by first | rfl | (rw [e2]; done) | (simp [e2]; done), rfl⟩
      case rest =>
        obtain ⟨e2, ewc⟩ := hcut
        subst e2
        subst ewc
        obtain ⟨w2, rfl⟩ : ∃ w2, w2 = wc := ⟨_, rfl⟩
        obtain ⟨wv, hwv⟩ : ∃ wv, wq wi = wv := ⟨_, rfl⟩
        rw [hwv] at Hmod ⊢
        clear hwv
        have hmod := Hmod.out
        have hnz : ¬ (n : Int) = 0 := by omega
        have hq2 : (q : Int) < (n : Int) := by omega
        have x6 := (VF.out w2 HB2.out).2.2.2.2.2.2.1
        go_upto_region 8 with (fail)
        clear hmod hnz
        obtain ⟨bo, off, ai, ci, hoa, hbl2, hoc, hse⟩ := HSQ.out w2 HB2.out
        (try simp only at hoa)
        subst hoa
        have HNI := hide ((HNQ.out w2 HB2.out).nil Hho.out (hoc 8 (by decide)))
        obtain ⟨o0, o1, o2, o3, o4, o5, o6, o7, o8⟩ := Ob.cells9 hoc
        simp only at o0 o1 o2 o3 o4 o5 o6 o7 o8
        have HSE := hide hse
        clear hoc hse
        go_upto_region 9 with (fail)
        obtain ⟨W3, hW3, B3, R3⟩ := obox w2 us li fi ta ag ge lk nx ai m ci
        have HB3 := hide (show Below W0.heap.size W0 W3 from HB2.out.trans (B3.mono HB2.out.size))
        have OBF := hide (fun (wx : World) (hb : Below W3.heap.size W3 wx) => show wx.cell? ⟨w2.heap.size, 0, none⟩ = some (.bool us) ∧ wx.cell? ⟨w2.heap.size, 1, none⟩ = some (.bool li) ∧ wx.cell? ⟨w2.heap.size, 2, none⟩ = some (.bool fi) ∧ wx.cell? ⟨w2.heap.size, 3, none⟩ = some (.bool ta) ∧ wx.cell? ⟨w2.heap.size, 4, none⟩ = some (.int .i64 ag) ∧ wx.cell? ⟨w2.heap.size, 5, none⟩ = some (.int .u64 ge) ∧ wx.cell? ⟨w2.heap.size, 6, none⟩ = some (.int .u64 lk) ∧ wx.cell? ⟨w2.heap.size, 7, none⟩ = some (.int .u64 nx) ∧ wx.cell? ⟨w2.heap.size, 8, none⟩ = some (.slice ai m ci) from
          ⟨(row_on R3 hb).cell (i := 0) (by decide), (row_on R3 hb).cell (i := 1) (by decide), (row_on R3 hb).cell (i := 2) (by decide), (row_on R3 hb).cell (i := 3) (by decide), (row_on R3 hb).cell (i := 4) (by decide), (row_on R3 hb).cell (i := 5) (by decide), (row_on R3 hb).cell (i := 6) (by decide), (row_on R3 hb).cell (i := 7) (by decide), (row_on R3 hb).cell (i := 8) (by decide)⟩)
        have HSE3 := hide (HSE.out.below B3)
        simp only [hW3]
        clear hW3 B3 R3 o0 o1 o2 o3 o4 o5 o6 o7 o8 x6 HSE
        obtain ⟨x0, x1, x2, x3, x4, x5, x6, x7, x8, x9, x10, x11, x12, x13⟩ := VF.out W3 HB3.out
        go_upto_region 10 with (go_at_call 15; refine (ST0'.out _ (UPW.out _ HB3.out)).mono ?_; rintro e w4 ⟨rS, eS, rfl, hz, hb⟩; have HZS := hide hz; have B4 := hide hb; clear hz hb)
        clear x0 x1 x2 x3 x4 x5 x6 x7 x8 x9 x10 x11 x12 x13
        have HB4 := hide (HB3.out.trans (B4.out.mono HB3.out.size))
        obtain ⟨x0, x1, x2, x3, x4, x5, x6, x7, x8, x9, x10, x11, x12, x13⟩ := VF.out w4 HB4.out
        go_upto_region 11 with (go_at_call 16; refine (WK0'.out _ (UPW.out _ HB4.out)).mono ?_; rintro e w5 ⟨rW, eW, rfl, hz, hb⟩; have HZW := hide hz; have B5 := hide (B4.out.trans (hb.mono B4.out.size)); clear hz hb)
        clear x0 x1 x2 x3 x4 x5 x6 x7 x8 x9 x10 x11 x12 x13
        have HB5 := hide (HB3.out.trans (B5.out.mono HB3.out.size))
        clear B4 HB4 ST0' WK0'
        go_cut [80] from 74 to 79 (fun s wx => s = .bool (us && !li) ∧ wx = w5)
        case first =>
          obtain ⟨p0, p1, p2, p3, p4, p5, p6, p7, p8⟩ := OBF.out w5 B5.out
          cases us
          · go_wp2_with fail
            go_meet
            exact ⟨rfl, rfl⟩
          · cases li
            · go_wp2_with fail
              go_meet
              exact ⟨rfl, rfl⟩
            · go_wp2_with fail
              go_meet
              exact ⟨rfl, rfl⟩
        case rest =>
          obtain ⟨e80, ewc⟩ := hcut
          subst e80
          subst ewc
          obtain ⟨w5, rfl⟩ : ∃ w5, w5 = wc := ⟨_, rfl⟩
          obtain ⟨bb, hbb⟩ : ∃ b, (us && !li) = b := ⟨_, rfl⟩
          rw [hbb]
          have HUL := hide (show bb = true → us = true ∧ li = false by rw [← hbb]; cases us <;> cases li <;> simp)
          clear hbb
          go_upto_if 80 with (fail)
          go_cut [17, 18, 19, 20, 21, 22, 23] from 81 to 118 (fun _ _ _ _ _ _ _ wx => Hid (Below w5.heap.size w5 wx))
          case first =>
            cases bb
            · go_wp2_with fail
              go_meet
              exact Below.refl _ _
            · as_aux_lemma =>
                obtain ⟨hu, hl⟩ := HUL.out rfl
                have ST1x := hide (ST1'.out hu hl)
                have WK1x := hide (WK1'.out hu hl)
                subst hu
                subst hl
                obtain ⟨p0, p1, p2, p3, p4, p5, p6, p7, p8⟩ := OBF.out w5 B5.out
                go_upto_region 14 with (fail)
                clear p0 p1 p2 p3 p4 p5 p6 p7 p8
                obtain ⟨W6, hW6, B6, R6⟩ := obox w5 true true fi ta ag ge lk nx ai m ci
                have HB6 := hide (show Below W0.heap.size W0 W6 from HB5.out.trans (B6.mono HB5.out.size))
                have HSE6 := hide ((HSE3.out.below B5.out).below B6)
                have CHX := hide (CH1.out W6 (UPW.out _ HB6.out) true true ai ci sl HSE6.out HNI.out)
                simp only [Hm.out] at CHX
                have p0 : W6.cell? ⟨w5.heap.size, 0, none⟩ = some (.bool true) := R6.cell (i := 0) (by decide)
                have p1 : W6.cell? ⟨w5.heap.size, 1, none⟩ = some (.bool true) := R6.cell (i := 1) (by decide)
                have p2 : W6.cell? ⟨w5.heap.size, 2, none⟩ = some (.bool fi) := R6.cell (i := 2) (by decide)
                have p3 : W6.cell? ⟨w5.heap.size, 3, none⟩ = some (.bool ta) := R6.cell (i := 3) (by decide)
                have p4 : W6.cell? ⟨w5.heap.size, 4, none⟩ = some (.int .i64 ag) := R6.cell (i := 4) (by decide)
                have p5 : W6.cell? ⟨w5.heap.size, 5, none⟩ = some (.int .u64 ge) := R6.cell (i := 5) (by decide)
                have p6 : W6.cell? ⟨w5.heap.size, 6, none⟩ = some (.int .u64 lk) := R6.cell (i := 6) (by decide)
                have p7 : W6.cell? ⟨w5.heap.size, 7, none⟩ = some (.int .u64 nx) := R6.cell (i := 7) (by decide)
                have p8 : W6.cell? ⟨w5.heap.size, 8, none⟩ = some (.slice ai m ci) := R6.cell (i := 8) (by decide)
                have B56 := hide (show Below w5.heap.size w5 W6 from B6)
                simp only [hW6]
                clear hW6 B6 R6 HSE6
                obtain ⟨x0, x1, x2, x3, x4, x5, x6, x7, x8, x9, x10, x11, x12, x13⟩ := VF.out W6 HB6.out
                go_upto_region 15 with (go_at_call 23; refine CHX.out.mono ?_; rintro e w7 ⟨la, cp, rfl, hla, hs1, hn1, hb⟩; have HS7 := hide hs1; have HN7 := hide hn1; have HLA := hide hla; have B7 := hide (B56.out.trans (hb.mono B56.out.size)); clear hs1 hn1 hla hb)
                clear x0 x1 x2 x3 x4 x5 x6 x7 x8 x9 x10 x11 x12 x13 p0 p1 p2 p3 p4 p5 p6 p7 p8 CHX
                obtain ⟨W8, hW8⟩ : ∃ W8, w7.alloc (.cells #[.int .i64 ph, .int .i64 co, .int .u64 ro, .slice aa na ca, .slice ra nr cr, .slice wa nw cw, .slice la n cp, .slice fa nf cf, .slice ga ngl cg, .slice qa nqz cq, .int .u64 k0, .int .u64 k1, .int .u64 k2, .int .u64 k3] 29) = W8 := ⟨_, rfl⟩
                have R8 : W8.rowIs w7.heap.size 29 14 (lrow [.int .i64 ph, .int .i64 co, .int .u64 ro, .slice aa na ca, .slice ra nr cr, .slice wa nw cw, .slice la n cp, .slice fa nf cf, .slice ga ngl cg, .slice qa nqz cq, .int .u64 k0, .int .u64 k1, .int .u64 k2, .int .u64 k3]) := by rw [← hW8]; exact rowL_alloc w7 [.int .i64 ph, .int .i64 co, .int .u64 ro, .slice aa na ca, .slice ra nr cr, .slice wa nw cw, .slice la n cp, .slice fa nf cf, .slice ga ngl cg, .slice qa nqz cq, .int .u64 k0, .int .u64 k1, .int .u64 k2, .int .u64 k3] _ rfl
                have B78 := hide (show Below w7.heap.size w7 W8 by rw [← hW8]; exact (Below.refl _ w7).alloc (Nat.le_refl _) _)
                have V8 := hide (fun (wx : World) (hb : Below W8.heap.size W8 wx) => show wx.cell? ⟨w7.heap.size, 0, none⟩ = some (.int .i64 ph) ∧ wx.cell? ⟨w7.heap.size, 1, none⟩ = some (.int .i64 co) ∧ wx.cell? ⟨w7.heap.size, 2, none⟩ = some (.int .u64 ro) ∧ wx.cell? ⟨w7.heap.size, 3, none⟩ = some (.slice aa na ca) ∧ wx.cell? ⟨w7.heap.size, 4, none⟩ = some (.slice ra nr cr) ∧ wx.cell? ⟨w7.heap.size, 5, none⟩ = some (.slice wa nw cw) ∧ wx.cell? ⟨w7.heap.size, 6, none⟩ = some (.slice la n cp) ∧ wx.cell? ⟨w7.heap.size, 7, none⟩ = some (.slice fa nf cf) ∧ wx.cell? ⟨w7.heap.size, 8, none⟩ = some (.slice ga ngl cg) ∧ wx.cell? ⟨w7.heap.size, 9, none⟩ = some (.slice qa nqz cq) ∧ wx.cell? ⟨w7.heap.size, 10, none⟩ = some (.int .u64 k0) ∧ wx.cell? ⟨w7.heap.size, 11, none⟩ = some (.int .u64 k1) ∧ wx.cell? ⟨w7.heap.size, 12, none⟩ = some (.int .u64 k2) ∧ wx.cell? ⟨w7.heap.size, 13, none⟩ = some (.int .u64 k3) from
                  ⟨(row_on R8 hb).cell (i := 0) (by decide), (row_on R8 hb).cell (i := 1) (by decide), (row_on R8 hb).cell (i := 2) (by decide), (row_on R8 hb).cell (i := 3) (by decide), (row_on R8 hb).cell (i := 4) (by decide), (row_on R8 hb).cell (i := 5) (by decide), (row_on R8 hb).cell (i := 6) (by decide), (row_on R8 hb).cell (i := 7) (by decide), (row_on R8 hb).cell (i := 8) (by decide), (row_on R8 hb).cell (i := 9) (by decide), (row_on R8 hb).cell (i := 10) (by decide), (row_on R8 hb).cell (i := 11) (by decide), (row_on R8 hb).cell (i := 12) (by decide), (row_on R8 hb).cell (i := 13) (by decide)⟩)
                have B58 := hide (show Below w5.heap.size w5 W8 from B7.out.trans (B78.out.mono B7.out.size))
                have HL8 := hide (show SeesN W8 ba bs from HLb.out.below (HB5.out.trans (B58.out.mono HB5.out.size)))
                simp only [hW8]
                clear hW8 R8
                go_upto_region 16 with (first
                  | (at_builtin; refine wpList_append_opt rfl (.tmp 87) (.tmp 88) 26 rfl W8.heap.size 3 iI (.int .i64 0) 1 8 Try.underlying26 hiI hzI hsI hyI rfl (by decide) (.slice (some ⟨W8.heap.size, 0, none⟩) 0 0) 0 [] rfl (by have := World.ownsRow_lit (base := W8.heap.size) (e := 3) (size := 1) W8 #[] 0 (by simp) (by unfold maxLen; omega) rfl; simpa using this) ba nbs bc (ncs bs) rfl HNIL.out (by rw [ncs_len, Hnbs.out]; omega) (news_n (HL8.out.below ((Below.refl _ W8).alloc (Nat.le_refl _) _))) (ncs_one _) (by unfold maxLen; omega) (by omega) (by simp) ?_; intro v9 w9 hown9 hgr9 _; rw [Nat.zero_add, List.nil_append] at hown9; obtain ⟨la9, cp9, rfl⟩ := own_slice hown9; have O9 := hide (show (w9.alloc (.cells #[.int .i64 ((q : Int) + 1)] 3)).ownsRow W8.heap.size 3 1 (.slice la9 nbs cp9) nbs (ncs bs) from owns_on hown9 ((Below.refl _ w9).alloc (Nat.le_refl _) _)); have B9 := hide (show Below W8.heap.size W8 w9 from ((Below.refl _ W8).alloc (Nat.le_refl _) (.cells #[] 3)).grown hgr9 (by simp) (by simp [Value.ownBlock])); have hz9 : W8.heap.size ≤ w9.heap.size := B9.out.size; clear hown9 hgr9)
                  | (at_builtin; refine wpList_append_opt rfl (.tmp 89) (.tmp 91) 26 rfl W8.heap.size 3 iI (.int .i64 0) 1 8 Try.underlying26 hiI hzI hsI hyI rfl (by decide) (.slice la9 nbs cp9) nbs (ncs bs) rfl O9.out (some ⟨w9.heap.size, 0, none⟩) 1 1 (ncs [(q : Int) + 1]) rfl (fun h => by cases h) rfl (fun ad had j v hj => by cases had; rw [Go.WideShapes.add_plain]; have hj1 : j < 1 := (by have := (List.getElem?_eq_some_iff.1 hj).1; simpa [ncs] using this); (obtain rfl : j = 0 := (by omega)); simp [ncs] at hj; rw [← hj]; simp) (ncs_one _) (by unfold maxLen; omega) (by omega) (by simp; omega) ?_; intro v10 w10 hown10 hgr10 _; obtain ⟨ma, mc, rfl⟩ := own_slice hown10; have SM10 := hide (show SeesN w10 ma (bs ++ [(q : Int) + 1]) by rw [← ncs_app] at hown10; exact own_seesN hown10); have B10 := hide (Gr.below_grown (B9.out.alloc hz9 (.cells #[.int .i64 ((q : Int) + 1)] 3)) O9.out hgr10 (by simp; omega)); clear hown10 hgr10))
                have B510 := hide (show Below w5.heap.size w5 w10 from B58.out.trans (B10.out.mono B58.out.size))
                have HB10 := hide (show Below W0.heap.size W0 w10 from HB5.out.trans (B510.out.mono HB5.out.size))
                have B710 := hide (show Below w7.heap.size w7 w10 from B78.out.trans (B10.out.mono B78.out.size))
                obtain ⟨y0, y1, y2, y3, y4, y5, y6, y7, y8, y9, y10, y11, y12, y13⟩ := V8.out w10 B10.out
                go_upto_region 17 with (go_at_call 15; refine (ST1x.out w10 (UPW.out _ HB10.out) la cp ma mc (HS7.out.below B710.out) (HN7.out.below B710.out) HLA.out SM10.out).mono ?_; rintro e w11 ⟨r1, e1, rfl, hz, hb⟩; have HE1 := hide hz; have B11 := hide hb; clear hz hb)
                clear y0 y1 y2 y3 y4 y5 y6 y7 y8 y9 y10 y11 y12 y13
                have B511 := hide (show Below w5.heap.size w5 w11 from B510.out.trans (B11.out.mono B510.out.size))
                have HB11 := hide (show Below W0.heap.size W0 w11 from HB5.out.trans (B511.out.mono HB5.out.size))
                have B811 := hide (show Below W8.heap.size W8 w11 from B10.out.trans (B11.out.mono B10.out.size))
                obtain ⟨y0, y1, y2, y3, y4, y5, y6, y7, y8, y9, y10, y11, y12, y13⟩ := V8.out w11 B811.out
                go_upto_region 18 with (go_at_call 16; refine (WK1x.out w11 (UPW.out _ HB11.out) la cp ma mc ((HS7.out.below B710.out).below B11.out) ((HN7.out.below B710.out).below B11.out) HLA.out (SM10.out.below B11.out)).mono ?_; rintro e w12 ⟨r2, e2, rfl, hz, hb⟩; have HE2 := hide hz; have B12 := hide (B511.out.trans (hb.mono B511.out.size)); clear hz hb)
                clear y0 y1 y2 y3 y4 y5 y6 y7 y8 y9 y10 y11 y12 y13
                rcases Classical.em (eS = 0) with hs | hs
                · have es1 : (eS == 0) = true := by simp [hs]
                  have es2 : (e1 != 0) = false := by simp [HE1.out (HZS.out hs)]
                  rcases Classical.em (eW = 0) with hw | hw
                  · have ew1 : (eW == 0) = true := by simp [hw]
                    have ew2 : (e2 != 0) = false := by simp [HE2.out (HZW.out hw)]
                    clear hs hw
                    go_wp2_with fail
                    go_meet
                    exact B12.out
                  · have ew1 : (eW == 0) = false := by simp [hw]
                    clear hs hw
                    go_wp2_with fail
                    go_meet
                    exact B12.out
                · have es1 : (eS == 0) = false := by simp [hs]
                  rcases Classical.em (eW = 0) with hw | hw
                  · have ew1 : (eW == 0) = true := by simp [hw]
                    have ew2 : (e2 != 0) = false := by simp [HE2.out (HZW.out hw)]
                    clear hs hw
                    go_wp2_with fail
                    go_meet
                    exact B12.out
                  · have ew1 : (eW == 0) = false := by simp [hw]
                    clear hs hw
                    go_wp2_with fail
                    go_meet
                    exact B12.out
          case rest =>
            have HBx := hcut
            clear hcut
            obtain ⟨w6, rfl⟩ : ∃ w6, w6 = wc := ⟨_, rfl⟩
            have B36 := hide (show Below W3.heap.size W3 w6 from B5.out.trans (HBx.out.mono B5.out.size))
            have HB6 := hide (show Below W0.heap.size W0 w6 from HB3.out.trans (B36.out.mono HB3.out.size))
            clear HBx B5 HB5 ST1' WK1'
            have hml2 : m ≤ 35184372088832 := hml
            go_upto_region 22 with (fail)
            go_loopw [24, 25] (fun v i wr => ∃ (k : Nat) (cl : Bool), k ≤ m ∧ v = .bool cl ∧ i = .int .i64 k ∧ Hid (cl = true → ∀ x ∈ sl.take k, wh c.os (gl ++ bs) x = 0) ∧ Hid (Below w6.heap.size w6 wr)) (fun _ i _ => m - (intOf i).toNat)
            case atStart => exact ⟨0, true, Nat.zero_le _, rfl, rfl, (fun _ x hx => by simp at hx : true = true → ∀ x ∈ sl.take 0, wh c.os (gl ++ bs) x = 0), Below.refl _ _⟩
            case round =>
              obtain ⟨k, cl, hk, rfl, rfl, HCL, HBk⟩ := hrel
              have B3k := hide (show Below W3.heap.size W3 wr from B36.out.trans (HBk.out.mono B36.out.size))
              have HBW := hide (show Below W0.heap.size W0 wr from HB3.out.trans (B3k.out.mono HB3.out.size))
              obtain ⟨p0, p1, p2, p3, p4, p5, p6, p7, p8⟩ := OBF.out wr B3k.out
              by_cases hlt : k < m
              · have hkn : (k : Int) < (m : Int) := by omega
                obtain ⟨u, hu⟩ : ∃ u, sl[k]? = some u := ⟨sl[k]'(by rw [Hm.out]; exact hlt), by simp [Hm.out, hlt]⟩
                obtain ⟨b2, off2, hai, hbl3, hcc⟩ := HSE3.out.below B3k.out k u hu
                subst hai
                have hwu := HWs.out u (List.mem_of_getElem? hu)
                have NXT := hide (show cl = true → wh c.os (gl ++ bs) u = 0 → ∀ x ∈ sl.take (k + 1), wh c.os (gl ++ bs) x = 0 from fun hc h0 x hx => by
                  rw [List.take_add_one, hu] at hx
                  rcases List.mem_append.1 hx with hx | hx
                  · exact HCL.out hc x hx
                  · simp at hx; subst hx; exact h0)
                cases cl
                · go_upto_region 24 with (fail)
                  go_quiet (fail)
                  go_wp2_with fail
                  go_roundw
                  case rel => exact ⟨k + 1, false, by omega, rfl, by go_num, (fun h => by cases h), below_drewN HBk.out _⟩
                  case measure => simp [intOf]; omega
                · as_aux_lemma =>
                    have D1 : Below wr.heap.size wr wr.drew := ⟨rfl, rfl, rfl, Nat.le_refl _, fun _ _ => rfl⟩
                    have DW : Below W0.heap.size W0 wr.drew := ⟨HBW.out.os, HBW.out.tape, HBW.out.output, HBW.out.size, HBW.out.block⟩
                    have SF := hide (fun (wx : World) (hb : Below wr.heap.size wr wx) => show (wx.cell? ⟨w.heap.size, 0, none⟩ = some (.int .i64 ph) ∧ wx.cell? ⟨w.heap.size, 1, none⟩ = some (.int .i64 co) ∧ wx.cell? ⟨w.heap.size, 2, none⟩ = some (.int .u64 ro) ∧ wx.cell? ⟨w.heap.size, 3, none⟩ = some (.slice aa na ca) ∧ wx.cell? ⟨w.heap.size, 4, none⟩ = some (.slice ra nr cr) ∧ wx.cell? ⟨w.heap.size, 5, none⟩ = some (.slice wa nw cw) ∧ wx.cell? ⟨w.heap.size, 6, none⟩ = some (.slice (some ⟨bo, off, none⟩) n cb) ∧ wx.cell? ⟨w.heap.size, 7, none⟩ = some (.slice fa nf cf) ∧ wx.cell? ⟨w.heap.size, 8, none⟩ = some (.slice ga ngl cg) ∧ wx.cell? ⟨w.heap.size, 9, none⟩ = some (.slice qa nqz cq) ∧ wx.cell? ⟨w.heap.size, 10, none⟩ = some (.int .u64 k0) ∧ wx.cell? ⟨w.heap.size, 11, none⟩ = some (.int .u64 k1) ∧ wx.cell? ⟨w.heap.size, 12, none⟩ = some (.int .u64 k2) ∧ wx.cell? ⟨w.heap.size, 13, none⟩ = some (.int .u64 k3) ∧ wx.cell? ⟨w2.heap.size, 8, none⟩ = some (.slice (some ⟨b2, off2, none⟩) m ci) ∧ wx.cell? ⟨b2, off2 + k, none⟩ = some (.int .u64 u)) by
                      have V := VF.out wx (HBW.out.trans (hb.mono HBW.out.size))
                      obtain ⟨v0, v1, v2, v3, v4, v5, v6, v7, v8, v9, v10, v11, v12, v13⟩ := V
                      exact ⟨v0, v1, v2, v3, v4, v5, v6, v7, v8, v9, v10, v11, v12, v13, (OBF.out wx (B3k.out.trans (hb.mono B3k.out.size))).2.2.2.2.2.2.2.2, (hb.cell (p := ⟨b2, off2 + k, none⟩) hbl3).trans hcc⟩)
                    have K0 := SF.out wr.drew D1
                    have WX := hide (WHX.out wr.drew (UPW.out _ DW) u hwu)
                    obtain ⟨vw, hvw⟩ : ∃ vw, (wh c.os (gl ++ bs) u != 0) = vw := ⟨_, rfl⟩
                    rw [hvw] at WX
                    have NN := hide (show vw = false → ∀ x ∈ sl.take (k + 1), wh c.os (gl ++ bs) x = 0 from fun h => NXT.out rfl (by rw [h] at hvw; simpa using hvw))
                    clear hu hvw NXT
                    go_upto_region 24 with (fail)
                    go_region_held (fun w' => w'.cell? ⟨w.heap.size, 0, none⟩ = some (.int .i64 ph) ∧ w'.cell? ⟨w.heap.size, 1, none⟩ = some (.int .i64 co) ∧ w'.cell? ⟨w.heap.size, 2, none⟩ = some (.int .u64 ro) ∧ w'.cell? ⟨w.heap.size, 3, none⟩ = some (.slice aa na ca) ∧ w'.cell? ⟨w.heap.size, 4, none⟩ = some (.slice ra nr cr) ∧ w'.cell? ⟨w.heap.size, 5, none⟩ = some (.slice wa nw cw) ∧ w'.cell? ⟨w.heap.size, 6, none⟩ = some (.slice (some ⟨bo, off, none⟩) n cb) ∧ w'.cell? ⟨w.heap.size, 7, none⟩ = some (.slice fa nf cf) ∧ w'.cell? ⟨w.heap.size, 8, none⟩ = some (.slice ga ngl cg) ∧ w'.cell? ⟨w.heap.size, 9, none⟩ = some (.slice qa nqz cq) ∧ w'.cell? ⟨w.heap.size, 10, none⟩ = some (.int .u64 k0) ∧ w'.cell? ⟨w.heap.size, 11, none⟩ = some (.int .u64 k1) ∧ w'.cell? ⟨w.heap.size, 12, none⟩ = some (.int .u64 k2) ∧ w'.cell? ⟨w.heap.size, 13, none⟩ = some (.int .u64 k3) ∧ w'.cell? ⟨w2.heap.size, 8, none⟩ = some (.slice (some ⟨b2, off2, none⟩) m ci) ∧ w'.cell? ⟨b2, off2 + k, none⟩ = some (.int .u64 u)) (first | exact K0 | exact K1) ((go_at_call 24; refine WX.out.mono ?_; rintro e w1 ⟨rfl, hb⟩; have HB1 := hide (D1.trans (hb.mono D1.size)); have K1 := SF.out w1 HB1.out; clear hb))
                    clear K0 K1 p0 p1 p2 p3 p4 p5 p6 p7 p8
                    go_wp2_with fail
                    go_roundw
                    case rel => exact ⟨k + 1, !vw, by omega, by first | rfl | (cases vw <;> rfl), by go_num, (fun h => NN.out (by simpa using h)), HBk.out.trans (HB1.out.mono HBk.out.size)⟩
                    case measure => simp [intOf]; omega
              · have hkn : ¬ (k : Int) < (m : Int) := by omega
                have e0 : sl.take k = sl := List.take_of_length_le (by rw [Hm.out]; omega)
                rw [e0] at HCL
                clear e0 hlt hk
                obtain ⟨w7, rfl⟩ : ∃ w7, w7 = wr := ⟨_, rfl⟩
                go_upto_region 25 with (fail)
                go_cut [145] from 137 to 144 (fun s wx => s = .bool (us && li && cl) ∧ wx = w7)
                case first =>
                  cases us
                  · go_wp2_with fail
                    go_meet
                    exact ⟨rfl, rfl⟩
                  · cases li
                    · go_wp2_with fail
                      go_meet
                      exact ⟨rfl, rfl⟩
                    · go_wp2_with fail
                      go_meet
                      exact ⟨rfl, rfl⟩
                case rest =>
                  obtain ⟨e145, ewc⟩ := hcut
                  subst e145
                  subst ewc
                  obtain ⟨w7, rfl⟩ : ∃ w7, w7 = wc := ⟨_, rfl⟩
                  clear p0 p1 p2 p3 p4 p5 p6 p7 p8 hkn HBk
                  obtain ⟨b3, hb3⟩ : ∃ b, (us && li && cl) = b := ⟨_, rfl⟩
                  rw [hb3]
                  have HUL := hide (show b3 = true → us = true ∧ li = true ∧ cl = true by rw [← hb3]; cases us <;> cases li <;> cases cl <;> simp)
                  clear hb3
                  go_upto_if 145 with (fail)
                  go_cut [26, 27, 28, 29, 30] from 146 to 181 (fun _ _ _ _ _ wx => Hid (Below w7.heap.size w7 wx))
                  case first =>
                    cases b3
                    · go_wp2_with fail
                      go_meet
                      exact Below.refl _ _
                    · as_aux_lemma =>
                        obtain ⟨hu, hl, hc⟩ := HUL.out rfl
                        have ST2x := hide (ST2'.out hu hl (HCL.out hc))
                        have WK2x := hide (WK2'.out hu hl (HCL.out hc))
                        clear hu hl hc HUL
                        obtain ⟨x0, x1, x2, x3, x4, x5, x6, x7, x8, x9, x10, x11, x12, x13⟩ := VF.out w7 HBW.out
                        go_upto_region 27 with (fail)
                        clear x0 x1 x2 x3 x4 x5 x6 x7 x8 x9 x10 x11 x12 x13
                        obtain ⟨W8, hW8⟩ : ∃ W8, w7.alloc (.cells #[.int .i64 ph, .int .i64 co, .int .u64 ro, .slice aa na ca, .slice ra nr cr, .slice wa nw cw, .slice (some ⟨bo, off, none⟩) n cb, .slice fa nf cf, .slice ga ngl cg, .slice qa nqz cq, .int .u64 k0, .int .u64 k1, .int .u64 k2, .int .u64 k3] 29) = W8 := ⟨_, rfl⟩
                        have R8 := hide (show W8.rowIs w7.heap.size 29 14 (lrow [.int .i64 ph, .int .i64 co, .int .u64 ro, .slice aa na ca, .slice ra nr cr, .slice wa nw cw, .slice (some ⟨bo, off, none⟩) n cb, .slice fa nf cf, .slice ga ngl cg, .slice qa nqz cq, .int .u64 k0, .int .u64 k1, .int .u64 k2, .int .u64 k3]) by rw [← hW8]; exact rowL_alloc w7 [.int .i64 ph, .int .i64 co, .int .u64 ro, .slice aa na ca, .slice ra nr cr, .slice wa nw cw, .slice (some ⟨bo, off, none⟩) n cb, .slice fa nf cf, .slice ga ngl cg, .slice qa nqz cq, .int .u64 k0, .int .u64 k1, .int .u64 k2, .int .u64 k3] _ rfl)
                        have B78 := hide (show Below w7.heap.size w7 W8 by rw [← hW8]; exact (Below.refl _ w7).alloc (Nat.le_refl _) _)
                        have HB8 := hide (show Below W0.heap.size W0 W8 from HBW.out.trans (B78.out.mono HBW.out.size))
                        have l8 : w7.heap.size < W8.heap.size := R8.out.lt
                        simp only [hW8]
                        clear hW8
                        have x8 := (VF.out W8 HB8.out).2.2.2.2.2.2.2.2.1
                        go_upto_region 28 with (go_at_call 25; refine (WG2.out _ (UPW.out _ HB8.out)).mono ?_; rintro e w9 ⟨ga2, cg2, rfl, hown, hb⟩; have O9 := hide hown; have B89 := hide hb; have c98 : w9.cell? ⟨w7.heap.size, 8, none⟩ = some (.slice ga ngl cg) := (row_on R8.out hb).cell (i := 8) (by decide); have f98 : w9.frozen? ⟨w7.heap.size, 8, none⟩ = false := (row_on R8.out hb).frozen 8; clear hown hb)
                        obtain ⟨W10, hW10⟩ : ∃ W10, w9.setCell ⟨w7.heap.size, 8, none⟩ (.slice ga2 n2g cg2) = W10 := ⟨_, rfl⟩
                        have R10 := hide (show W10.rowIs w7.heap.size 29 14 (lrow [.int .i64 ph, .int .i64 co, .int .u64 ro, .slice aa na ca, .slice ra nr cr, .slice wa nw cw, .slice (some ⟨bo, off, none⟩) n cb, .slice fa nf cf, .slice ga2 n2g cg2, .slice qa nqz cq, .int .u64 k0, .int .u64 k1, .int .u64 k2, .int .u64 k3]) by
                          rw [← hW10]
                          refine ((row_on R8.out B89.out).set 8 _).congr (fun i hi => ?_)
                          by_cases e : i = 8
                          · subst e; rfl
                          · rw [if_neg e]
                            have : i = 0 ∨ i = 1 ∨ i = 2 ∨ i = 3 ∨ i = 4 ∨ i = 5 ∨ i = 6 ∨ i = 7 ∨ i = 9 ∨ i = 10 ∨ i = 11 ∨ i = 12 ∨ i = 13 := by omega
                            rcases this with rfl | rfl | rfl | rfl | rfl | rfl | rfl | rfl | rfl | rfl | rfl | rfl | rfl <;> rfl)
                        have B710 := hide (show Below w7.heap.size w7 W10 by rw [← hW10]; exact (B78.out.trans (B89.out.mono (by omega))).setCell (Nat.le_refl _) _)
                        have G10 := hide (show SeesN W10 ga2 (wo gl ((q : Int) + 1)) by
                          rw [← hW10]
                          exact own_seesN (owns_keep O9.out (fun b hb1 hb2 => Below.heap_setCell _ _ _ _ (by simp only; omega))))
                        have HB10 := hide (show Below W0.heap.size W0 W10 from HBW.out.trans (B710.out.mono HBW.out.size))
                        have V10 := hide (fun (wx : World) (hb : Below W10.heap.size W10 wx) => show wx.cell? ⟨w7.heap.size, 0, none⟩ = some (.int .i64 ph) ∧ wx.cell? ⟨w7.heap.size, 1, none⟩ = some (.int .i64 co) ∧ wx.cell? ⟨w7.heap.size, 2, none⟩ = some (.int .u64 ro) ∧ wx.cell? ⟨w7.heap.size, 3, none⟩ = some (.slice aa na ca) ∧ wx.cell? ⟨w7.heap.size, 4, none⟩ = some (.slice ra nr cr) ∧ wx.cell? ⟨w7.heap.size, 5, none⟩ = some (.slice wa nw cw) ∧ wx.cell? ⟨w7.heap.size, 6, none⟩ = some (.slice (some ⟨bo, off, none⟩) n cb) ∧ wx.cell? ⟨w7.heap.size, 7, none⟩ = some (.slice fa nf cf) ∧ wx.cell? ⟨w7.heap.size, 8, none⟩ = some (.slice ga2 n2g cg2) ∧ wx.cell? ⟨w7.heap.size, 9, none⟩ = some (.slice qa nqz cq) ∧ wx.cell? ⟨w7.heap.size, 10, none⟩ = some (.int .u64 k0) ∧ wx.cell? ⟨w7.heap.size, 11, none⟩ = some (.int .u64 k1) ∧ wx.cell? ⟨w7.heap.size, 12, none⟩ = some (.int .u64 k2) ∧ wx.cell? ⟨w7.heap.size, 13, none⟩ = some (.int .u64 k3) from
                          ⟨(row_on R10.out hb).cell (i := 0) (by decide), (row_on R10.out hb).cell (i := 1) (by decide), (row_on R10.out hb).cell (i := 2) (by decide), (row_on R10.out hb).cell (i := 3) (by decide), (row_on R10.out hb).cell (i := 4) (by decide), (row_on R10.out hb).cell (i := 5) (by decide), (row_on R10.out hb).cell (i := 6) (by decide), (row_on R10.out hb).cell (i := 7) (by decide), (row_on R10.out hb).cell (i := 8) (by decide), (row_on R10.out hb).cell (i := 9) (by decide), (row_on R10.out hb).cell (i := 10) (by decide), (row_on R10.out hb).cell (i := 11) (by decide), (row_on R10.out hb).cell (i := 12) (by decide), (row_on R10.out hb).cell (i := 13) (by decide)⟩)
                        (try simp only [hW10])
                        clear hW10 c98 f98 x8 O9 B89 B78 R8
                        have D1 : Below W10.heap.size W10 W10.drew := ⟨rfl, rfl, rfl, Nat.le_refl _, fun _ _ => rfl⟩
                        have DW : Below W0.heap.size W0 W10.drew := ⟨HB10.out.os, HB10.out.tape, HB10.out.output, HB10.out.size, HB10.out.block⟩
                        have K0 := V10.out W10.drew D1
                        go_region_held (fun w' => w'.cell? ⟨w7.heap.size, 0, none⟩ = some (.int .i64 ph) ∧ w'.cell? ⟨w7.heap.size, 1, none⟩ = some (.int .i64 co) ∧ w'.cell? ⟨w7.heap.size, 2, none⟩ = some (.int .u64 ro) ∧ w'.cell? ⟨w7.heap.size, 3, none⟩ = some (.slice aa na ca) ∧ w'.cell? ⟨w7.heap.size, 4, none⟩ = some (.slice ra nr cr) ∧ w'.cell? ⟨w7.heap.size, 5, none⟩ = some (.slice wa nw cw) ∧ w'.cell? ⟨w7.heap.size, 6, none⟩ = some (.slice (some ⟨bo, off, none⟩) n cb) ∧ w'.cell? ⟨w7.heap.size, 7, none⟩ = some (.slice fa nf cf) ∧ w'.cell? ⟨w7.heap.size, 8, none⟩ = some (.slice ga2 n2g cg2) ∧ w'.cell? ⟨w7.heap.size, 9, none⟩ = some (.slice qa nqz cq) ∧ w'.cell? ⟨w7.heap.size, 10, none⟩ = some (.int .u64 k0) ∧ w'.cell? ⟨w7.heap.size, 11, none⟩ = some (.int .u64 k1) ∧ w'.cell? ⟨w7.heap.size, 12, none⟩ = some (.int .u64 k2) ∧ w'.cell? ⟨w7.heap.size, 13, none⟩ = some (.int .u64 k3)) (first | exact K0 | exact K1 | exact K2) (first
                          | (go_at_call 25; refine (WB2.out _ (UPW.out _ DW)).mono ?_; rintro e w11 ⟨ma, mc, rfl, hown, hb⟩; have SM11 := hide (own_seesN hown); have B11 := hide (D1.trans (hb.mono D1.size)); have K1 := V10.out w11 B11.out; clear hown hb)
                          | (go_at_call 15; refine (ST2x.out w11 (UPW.out _ (HB10.out.trans (B11.out.mono HB10.out.size))) ga2 cg2 ma mc (G10.out.below B11.out) SM11.out).mono ?_; rintro e w12 ⟨r1, e1, rfl, hz, hb⟩; have HE1 := hide hz; have B12 := hide (B11.out.trans (hb.mono B11.out.size)); have K2 := V10.out w12 B12.out; clear hz hb))
                        clear K0 K1 K2
                        go_upto_region 29 with (fail)
                        have HB12 := hide (show Below W0.heap.size W0 w12 from HB10.out.trans (B12.out.mono HB10.out.size))
                        have E1 : Below w12.heap.size w12 w12.drew := ⟨rfl, rfl, rfl, Nat.le_refl _, fun _ _ => rfl⟩
                        have E2 : Below W10.heap.size W10 w12.drew := ⟨B12.out.os, B12.out.tape, B12.out.output, B12.out.size, B12.out.block⟩
                        have EW : Below W0.heap.size W0 w12.drew := ⟨HB12.out.os, HB12.out.tape, HB12.out.output, HB12.out.size, HB12.out.block⟩
                        have K0 := V10.out w12.drew E2
                        go_region_held (fun w' => w'.cell? ⟨w7.heap.size, 0, none⟩ = some (.int .i64 ph) ∧ w'.cell? ⟨w7.heap.size, 1, none⟩ = some (.int .i64 co) ∧ w'.cell? ⟨w7.heap.size, 2, none⟩ = some (.int .u64 ro) ∧ w'.cell? ⟨w7.heap.size, 3, none⟩ = some (.slice aa na ca) ∧ w'.cell? ⟨w7.heap.size, 4, none⟩ = some (.slice ra nr cr) ∧ w'.cell? ⟨w7.heap.size, 5, none⟩ = some (.slice wa nw cw) ∧ w'.cell? ⟨w7.heap.size, 6, none⟩ = some (.slice (some ⟨bo, off, none⟩) n cb) ∧ w'.cell? ⟨w7.heap.size, 7, none⟩ = some (.slice fa nf cf) ∧ w'.cell? ⟨w7.heap.size, 8, none⟩ = some (.slice ga2 n2g cg2) ∧ w'.cell? ⟨w7.heap.size, 9, none⟩ = some (.slice qa nqz cq) ∧ w'.cell? ⟨w7.heap.size, 10, none⟩ = some (.int .u64 k0) ∧ w'.cell? ⟨w7.heap.size, 11, none⟩ = some (.int .u64 k1) ∧ w'.cell? ⟨w7.heap.size, 12, none⟩ = some (.int .u64 k2) ∧ w'.cell? ⟨w7.heap.size, 13, none⟩ = some (.int .u64 k3)) (first | exact K0 | exact K1 | exact K2) (first
                          | (go_at_call 25; refine (WB2.out _ (UPW.out _ EW)).mono ?_; rintro e w13 ⟨ma2, mc2, rfl, hown, hb⟩; have SM13 := hide (own_seesN hown); have B13 := hide (E2.trans (hb.mono E2.size)); have K1 := V10.out w13 B13.out; clear hown hb)
                          | (go_at_call 16; refine (WK2x.out w13 (UPW.out _ (HB10.out.trans (B13.out.mono HB10.out.size))) ga2 cg2 ma2 mc2 (G10.out.below B13.out) SM13.out).mono ?_; rintro e w14 ⟨r2, e2, rfl, hz, hb⟩; have HE2 := hide hz; have B14 := hide (B13.out.trans (hb.mono B13.out.size)); have K2 := V10.out w14 B14.out; clear hz hb))
                        clear K0 K1 K2
                        go_upto_region 30 with (fail)
                        have BZ := hide (show Below w7.heap.size w7 w14 from B710.out.trans (B14.out.mono B710.out.size))
                        rcases Classical.em (eS = 0) with hs | hs
                        · have es1 : (eS == 0) = true := by simp [hs]
                          have es2 : (e1 != 0) = false := by simp [HE1.out (HZS.out hs)]
                          rcases Classical.em (eW = 0) with hw | hw
                          · have ew1 : (eW == 0) = true := by simp [hw]
                            have ew2 : (e2 != 0) = false := by simp [HE2.out (HZW.out hw)]
                            clear hs hw
                            go_wp2_with fail
                            go_meet
                            exact BZ.out
                          · have ew1 : (eW == 0) = false := by simp [hw]
                            clear hs hw
                            go_wp2_with fail
                            go_meet
                            exact BZ.out
                        · have es1 : (eS == 0) = false := by simp [hs]
                          rcases Classical.em (eW = 0) with hw | hw
                          · have ew1 : (eW == 0) = true := by simp [hw]
                            have ew2 : (e2 != 0) = false := by simp [HE2.out (HZW.out hw)]
                            clear hs hw
                            go_wp2_with fail
                            go_meet
                            exact BZ.out
                          · have ew1 : (eW == 0) = false := by simp [hw]
                            clear hs hw
                            go_wp2_with fail
                            go_meet
                            exact BZ.out
                  case rest =>
                    have HBy := hcut
                    clear hcut
                    obtain ⟨w8, rfl⟩ : ∃ w8, w8 = wc := ⟨_, rfl⟩
                    have B38 := hide (show Below W3.heap.size W3 w8 from B3k.out.trans (HBy.out.mono B3k.out.size))
                    have HB8 := hide (show Below W0.heap.size W0 w8 from HB3.out.trans (B38.out.mono HB3.out.size))
                    clear HBy B3k HBW B36 HB6 HUL ST2' WK2' WG2 WB2
                    obtain ⟨p0, p1, p2, p3, p4, p5, p6, p7, p8⟩ := OBF.out w8 B38.out
                    obtain ⟨x0, x1, x2, x3, x4, x5, x6, x7, x8, x9, x10, x11, x12, x13⟩ := VF.out w8 HB8.out
                    by_cases hs0 : 0 ≤ sl0
                    · by_cases hsm : sl0 < (m : Int)
                      · obtain ⟨s, rfl⟩ : ∃ s : Nat, sl0 = (s : Int) := ⟨sl0.toNat, by omega⟩
                        have hsn : s < m := by omega
                        obtain ⟨u, hu⟩ : ∃ u, sl[s]? = some u := ⟨sl[s]'(by rw [Hm.out]; exact hsn), by simp [Hm.out, hsn]⟩
                        obtain ⟨b2, off2, hai, hbl3, hcc⟩ := HSE3.out.below B38.out s u hu
                        subst hai
                        have hwu := HWs.out u (List.mem_of_getElem? hu)
                        have D1 : Below w8.heap.size w8 w8.drew := ⟨rfl, rfl, rfl, Nat.le_refl _, fun _ _ => rfl⟩
                        have DW : Below W0.heap.size W0 w8.drew := ⟨HB8.out.os, HB8.out.tape, HB8.out.output, HB8.out.size, HB8.out.block⟩
                        have SF := hide (fun (wx : World) (hb : Below w8.heap.size w8 wx) => show (wx.cell? ⟨w.heap.size, 0, none⟩ = some (.int .i64 ph) ∧ wx.cell? ⟨w.heap.size, 1, none⟩ = some (.int .i64 co) ∧ wx.cell? ⟨w.heap.size, 2, none⟩ = some (.int .u64 ro) ∧ wx.cell? ⟨w.heap.size, 3, none⟩ = some (.slice aa na ca) ∧ wx.cell? ⟨w.heap.size, 4, none⟩ = some (.slice ra nr cr) ∧ wx.cell? ⟨w.heap.size, 5, none⟩ = some (.slice wa nw cw) ∧ wx.cell? ⟨w.heap.size, 6, none⟩ = some (.slice (some ⟨bo, off, none⟩) n cb) ∧ wx.cell? ⟨w.heap.size, 7, none⟩ = some (.slice fa nf cf) ∧ wx.cell? ⟨w.heap.size, 8, none⟩ = some (.slice ga ngl cg) ∧ wx.cell? ⟨w.heap.size, 9, none⟩ = some (.slice qa nqz cq) ∧ wx.cell? ⟨w.heap.size, 10, none⟩ = some (.int .u64 k0) ∧ wx.cell? ⟨w.heap.size, 11, none⟩ = some (.int .u64 k1) ∧ wx.cell? ⟨w.heap.size, 12, none⟩ = some (.int .u64 k2) ∧ wx.cell? ⟨w.heap.size, 13, none⟩ = some (.int .u64 k3) ∧ wx.cell? ⟨w2.heap.size, 8, none⟩ = some (.slice (some ⟨b2, off2, none⟩) m ci) ∧ wx.cell? ⟨b2, off2 + s, none⟩ = some (.int .u64 u)) by
                          have V := VF.out wx (HB8.out.trans (hb.mono HB8.out.size))
                          obtain ⟨v0, v1, v2, v3, v4, v5, v6, v7, v8, v9, v10, v11, v12, v13⟩ := V
                          exact ⟨v0, v1, v2, v3, v4, v5, v6, v7, v8, v9, v10, v11, v12, v13, (OBF.out wx (B38.out.trans (hb.mono B38.out.size))).2.2.2.2.2.2.2.2, (hb.cell (p := ⟨b2, off2 + s, none⟩) hbl3).trans hcc⟩)
                        have K0 := SF.out w8.drew D1
                        have WX1 := hide (WHX.out w8.drew (UPW.out _ DW) u hwu)
                        have Hu := hide hu
                        obtain ⟨v1, hv1⟩ : ∃ v, (wh c.os (gl ++ bs) u != 0) = v := ⟨_, rfl⟩
                        obtain ⟨v2, hv2⟩ : ∃ v, (wh c.os (gl ++ bs) hh != 0) = v := ⟨_, rfl⟩
                        have U0 := hide (show v1 = false → wh c.os (gl ++ bs) u = 0 from fun h => by rw [h] at hv1; simpa using hv1)
                        have H0' := hide (show v2 = false → wh c.os (gl ++ bs) hh = 0 from fun h => by rw [h] at hv2; simpa using hv2)
                        rw [hv1] at WX1
                        have WHY := hide (fun (wx : World) (hb : Below w.heap.size w wx) => WHX.out wx hb hh hhb)
                        simp only [hv2] at WHY
                        have t1 : decide ((0 : Int) ≤ (s : Int)) = true := by simp
                        have t2 : decide ((s : Int) < (m : Int)) = true := by simp; omega
                        clear hu hv1 hv2 hcc p0 p1 p2 p3 p4 p5 p6 p7 p8 x0 x1 x2 x3 x4 x5 x6 x7 x8 x9 x10 x11 x12 x13 hs0
                        cases v1
                        · cases v2
                          · as_aux_lemma =>
                              go_upto_region 32 with (fail)
                              go_region_held (fun w' => w'.cell? ⟨w.heap.size, 0, none⟩ = some (.int .i64 ph) ∧ w'.cell? ⟨w.heap.size, 1, none⟩ = some (.int .i64 co) ∧ w'.cell? ⟨w.heap.size, 2, none⟩ = some (.int .u64 ro) ∧ w'.cell? ⟨w.heap.size, 3, none⟩ = some (.slice aa na ca) ∧ w'.cell? ⟨w.heap.size, 4, none⟩ = some (.slice ra nr cr) ∧ w'.cell? ⟨w.heap.size, 5, none⟩ = some (.slice wa nw cw) ∧ w'.cell? ⟨w.heap.size, 6, none⟩ = some (.slice (some ⟨bo, off, none⟩) n cb) ∧ w'.cell? ⟨w.heap.size, 7, none⟩ = some (.slice fa nf cf) ∧ w'.cell? ⟨w.heap.size, 8, none⟩ = some (.slice ga ngl cg) ∧ w'.cell? ⟨w.heap.size, 9, none⟩ = some (.slice qa nqz cq) ∧ w'.cell? ⟨w.heap.size, 10, none⟩ = some (.int .u64 k0) ∧ w'.cell? ⟨w.heap.size, 11, none⟩ = some (.int .u64 k1) ∧ w'.cell? ⟨w.heap.size, 12, none⟩ = some (.int .u64 k2) ∧ w'.cell? ⟨w.heap.size, 13, none⟩ = some (.int .u64 k3) ∧ w'.cell? ⟨w2.heap.size, 8, none⟩ = some (.slice (some ⟨b2, off2, none⟩) m ci) ∧ w'.cell? ⟨b2, off2 + s, none⟩ = some (.int .u64 u)) (first | exact K0 | exact K1 | exact K2) (first | (go_at_call_of 24 (Value.int .u64 u); refine WX1.out.mono ?_; rintro e w9 ⟨rfl, hb⟩; have B9 := hide (D1.trans (hb.mono D1.size)); have K1 := SF.out w9 B9.out; have WX2 := hide (WHY.out w9 (UPW.out _ (HB8.out.trans (B9.out.mono HB8.out.size)))); clear hb) | (go_at_call_of 24 (Value.int .u64 hh); refine WX2.out.mono ?_; rintro e w10 ⟨rfl, hb⟩; have B10 := hide (B9.out.trans (hb.mono B9.out.size)); have K2 := SF.out w10 B10.out; clear hb))
                              clear K0 K1 K2 t1 t2
                              have hu0 := U0.out (by first | rfl | trivial)
                              have hh0 := H0'.out (by first | rfl | trivial)
                              have B38' := hide (show Below W3.heap.size W3 w10 from B38.out.trans (B10.out.mono B38.out.size))
                              have HB10 := hide (show Below W0.heap.size W0 w10 from HB8.out.trans (B10.out.mono HB8.out.size))
                              have HSE10 := hide (HSE3.out.below B38'.out)
                              have WKX := hide (WK3'.out s u Hu.out hu0 hh0)
                              clear hu0 hh0 U0 H0' WX1 WX2 WHX WHY SF B9 B10 WK3' D1 DW
                              obtain ⟨p0, p1, p2, p3, p4, p5, p6, p7, p8⟩ := OBF.out w10 B38'.out
                              go_upto_region 34 with (fail)
                              clear p0 p1 p2 p3 p4 p5 p6 p7 p8
                              obtain ⟨W20, hW20, B20, R20⟩ := obox w10 us li fi ta ag ge lk nx (some ⟨b2, off2, none⟩) m ci
                              have HR20 := hide R20
                              have HB20 := hide B20
                              have l20 : w10.heap.size < W20.heap.size := R20.lt
                              have B320 := hide (show Below W3.heap.size W3 W20 from B38'.out.trans (B20.mono B38'.out.size))
                              have HSE20 := hide (HSE10.out.below B20)
                              simp only [hW20]
                              clear hW20 B20 R20
                              have p8 := (OBF.out W20 B320.out).2.2.2.2.2.2.2.2
                              have c208 : W20.cell? ⟨w10.heap.size, 8, none⟩ = some (.slice (some ⟨b2, off2, none⟩) m ci) := HR20.out.cell (i := 8) (by decide)
                              have NIL20 := hide (show (some ⟨b2, off2, none⟩ : Option Addr) = none → m = 0 ∧ ci = 0 from fun h => by cases h)
                              have p8' := ((Below.refl W20.heap.size W20).alloc (Nat.le_refl _) (.cells #[] 22)).cell (p := ⟨w2.heap.size, 8, none⟩) (by show w2.heap.size < _; exact World.block_lt_of_cell? W20 _ p8)
                              rw [p8] at p8'
                              go_upto_region 35 with (at_builtin; refine wpList_append_opt rfl (.tmp 208) (.tmp 210) 23 rfl W20.heap.size 22 iU (.int .u64 0) 1 8 Try.underlying23 hiU hzU hsU hyU rfl (by decide) (.slice (some ⟨W20.heap.size, 0, none⟩) 0 0) 0 [] rfl (by have := World.ownsRow_lit (base := W20.heap.size) (e := 22) (size := 1) W20 #[] 0 (by simp) (by unfold maxLen; omega) rfl; simpa using this) (some ⟨b2, off2, none⟩) m ci (ucs sl) rfl NIL20.out (by rw [ucs_len, Hm.out]; omega) (news_u (HSE20.out.below ((Below.refl _ W20).alloc (Nat.le_refl _) _))) (ucs_one _) (by unfold maxLen; omega) (by omega) (by simp) ?_; intro v21 w21 hown21 hgr21 _; rw [Nat.zero_add, List.nil_append] at hown21; obtain ⟨la21, cp21, rfl⟩ := own_slice hown21; have O21 := hide hown21; have B21 := hide (show Below W20.heap.size W20 w21 from ((Below.refl _ W20).alloc (Nat.le_refl _) (.cells #[] 22)).grown hgr21 (by simp) (by simp [Value.ownBlock])); have c218 : w21.cell? ⟨w10.heap.size, 8, none⟩ = some (.slice (some ⟨b2, off2, none⟩) m ci) := (row_on HR20.out B21.out).cell (i := 8) (by decide); have f218 : w21.frozen? ⟨w10.heap.size, 8, none⟩ = false := (row_on HR20.out B21.out).frozen 8; clear hown21 hgr21)
                              obtain ⟨gp, hla21, hgp, hgpl, hcs, hfs⟩ := owns_cell O21.out (ucs_get Hu.out)
                              subst hla21
                              obtain ⟨W22, hW22⟩ : ∃ W22, w21.setCell ⟨w10.heap.size, 8, none⟩ (.slice (some ⟨gp, 0, none⟩) m cp21) = W22 := ⟨_, rfl⟩
                              have R22 := hide (show W22.rowIs w10.heap.size 44 9 (lrow [.bool us, .bool li, .bool fi, .bool ta, .int .i64 ag, .int .u64 ge, .int .u64 lk, .int .u64 nx, .slice (some ⟨gp, 0, none⟩) m cp21]) by
                                rw [← hW22]
                                refine ((row_on HR20.out B21.out).set 8 _).congr (fun i hi => ?_)
                                by_cases e : i = 8
                                · subst e; rfl
                                · rw [if_neg e]
                                  have : i = 0 ∨ i = 1 ∨ i = 2 ∨ i = 3 ∨ i = 4 ∨ i = 5 ∨ i = 6 ∨ i = 7 := by omega
                                  rcases this with rfl | rfl | rfl | rfl | rfl | rfl | rfl | rfl <;> rfl)
                              have hgne : gp ≠ w10.heap.size := by omega
                              have O22 := hide (show W22.ownsRow W20.heap.size 22 1 (.slice (some ⟨gp, 0, none⟩) m cp21) m (ucs sl) by
                                rw [← hW22]
                                exact owns_keep O21.out (fun b hb1 hb2 => Below.heap_setCell _ _ _ _ (by simp only; omega)))
                              have B22 := hide (show Below w10.heap.size w10 W22 by
                                rw [← hW22]
                                exact (HB20.out.trans (B21.out.mono (by omega))).setCell (Nat.le_refl _) _)
                              (try simp only [hW22])
                              clear hW22 c218 f218 c208 p8 p8' hcs hfs O21 B21 HR20 HB20 hgpl
                              obtain ⟨gp', hgpe, _, hgpl, hcs, hfs⟩ := owns_cell O22.out (ucs_get Hu.out)
                              cases hgpe
                              have d8 : W22.cell? ⟨w10.heap.size, 8, none⟩ = some (.slice (some ⟨gp, 0, none⟩) m cp21) := R22.out.cell (i := 8) (by decide)
                              have hsn2 : (s : Int) < (m : Int) := by omega
                              go_upto_region 36 with (fail)
                              obtain ⟨W23, hW23⟩ : ∃ W23, W22.setCell ⟨gp, s, none⟩ (.int .u64 hh) = W23 := ⟨_, rfl⟩
                              have R23 := hide (show W23.rowIs w10.heap.size 44 9 (lrow [.bool us, .bool li, .bool fi, .bool ta, .int .i64 ag, .int .u64 ge, .int .u64 lk, .int .u64 nx, .slice (some ⟨gp, 0, none⟩) m cp21]) by rw [← hW23]; exact R22.out.setOther (by simp only; omega) _)
                              have B23 := hide (show Below w10.heap.size w10 W23 by rw [← hW23]; exact B22.out.setCell (by simp only; omega) _)
                              have S23 := hide (show SeesU W23 (some ⟨gp, 0, none⟩) (sl.set s hh) by
                                rw [← hW23]
                                intro j x hj
                                have hjl : j < sl.length := by have := (List.getElem?_eq_some_iff.1 hj).1; simpa using this
                                refine ⟨gp, 0, rfl, by simpa using hgpl, ?_⟩
                                rw [Nat.zero_add]
                                by_cases e : j = s
                                · subst e
                                  rw [List.getElem?_set_self hjl] at hj
                                  cases hj
                                  exact World.cell?_setCell_same _ _ _ (by first | (rw [hcs]; done) | (rw [hcs]; rfl))
                                · rw [List.getElem?_set_ne (fun h => e h.symm)] at hj
                                  obtain ⟨g2, h1, _, _, h2, _⟩ := owns_cell O22.out (ucs_get hj)
                                  cases h1
                                  rw [World.cell?_setCell_other _ _ _ _ (by simp <;> omega)]
                                  exact h2)
                              (try simp only [hW23])
                              clear hW23 hcs hfs d8 O22 R22 B22
                              have HB23 := hide (show Below W0.heap.size W0 W23 from HB10.out.trans (B23.out.mono HB10.out.size))
                              obtain ⟨x0, x1, x2, x3, x4, x5, x6, x7, x8, x9, x10, x11, x12, x13⟩ := VF.out W23 HB23.out
                              have CHX := hide (CH1.out W23 (UPW.out _ HB23.out) us li (some ⟨gp, 0, none⟩) cp21 (sl.set s hh) S23.out (fun h => by cases h))
                              simp only [List.length_set, Hm.out] at CHX
                              have p0 : W23.cell? ⟨w10.heap.size, 0, none⟩ = some (.bool us) := R23.out.cell (i := 0) (by decide)
                              have p1 : W23.cell? ⟨w10.heap.size, 1, none⟩ = some (.bool li) := R23.out.cell (i := 1) (by decide)
                              have p2 : W23.cell? ⟨w10.heap.size, 2, none⟩ = some (.bool fi) := R23.out.cell (i := 2) (by decide)
                              have p3 : W23.cell? ⟨w10.heap.size, 3, none⟩ = some (.bool ta) := R23.out.cell (i := 3) (by decide)
                              have p4 : W23.cell? ⟨w10.heap.size, 4, none⟩ = some (.int .i64 ag) := R23.out.cell (i := 4) (by decide)
                              have p5 : W23.cell? ⟨w10.heap.size, 5, none⟩ = some (.int .u64 ge) := R23.out.cell (i := 5) (by decide)
                              have p6 : W23.cell? ⟨w10.heap.size, 6, none⟩ = some (.int .u64 lk) := R23.out.cell (i := 6) (by decide)
                              have p7 : W23.cell? ⟨w10.heap.size, 7, none⟩ = some (.int .u64 nx) := R23.out.cell (i := 7) (by decide)
                              have p8 : W23.cell? ⟨w10.heap.size, 8, none⟩ = some (.slice (some ⟨gp, 0, none⟩) m cp21) := R23.out.cell (i := 8) (by decide)
                              go_upto_region 37 with (first
                                | (go_at_call 23; refine CHX.out.mono ?_; rintro e w24 ⟨la, cp, rfl, hla, hs1, hn1, hb⟩; have B24 := hide (B23.out.trans (hb.mono B23.out.size)); have WKY := hide (WKX.out w24 (UPW.out _ (HB10.out.trans (B24.out.mono HB10.out.size))) la cp hs1 hn1 hla); clear hs1 hn1 hla hb)
                                | (go_at_call 16; refine WKY.out.mono ?_; rintro e w25 ⟨r2, e2, rfl, hz, hb⟩; have HE2 := hide hz; have B25 := hide (B24.out.trans (hb.mono B24.out.size)); clear hz hb))
                              clear x0 x1 x2 x3 x4 x5 x6 x7 x8 x9 x10 x11 x12 x13 p0 p1 p2 p3 p4 p5 p6 p7 p8
                              have BZ := hide (UPW.out _ (HB10.out.trans (B25.out.mono HB10.out.size)))
                              rcases Classical.em (eW = 0) with hw | hw
                              · have ew1 : (eW == 0) = true := by simp [hw]
                                have ew2 : (e2 != 0) = false := by simp [HE2.out (HZW.out hw)]
                                clear hw
                                go_wp2_with fail
                                go_ret
                                exact ⟨rfl, BZ.out⟩
                              · have ew1 : (eW == 0) = false := by simp [hw]
                                clear hw
                                go_wp2_with fail
                                go_ret
                                exact ⟨rfl, BZ.out⟩
                          · as_aux_lemma =>
                              go_upto_region 32 with (fail)
                              go_region_held (fun w' => w'.cell? ⟨w.heap.size, 0, none⟩ = some (.int .i64 ph) ∧ w'.cell? ⟨w.heap.size, 1, none⟩ = some (.int .i64 co) ∧ w'.cell? ⟨w.heap.size, 2, none⟩ = some (.int .u64 ro) ∧ w'.cell? ⟨w.heap.size, 3, none⟩ = some (.slice aa na ca) ∧ w'.cell? ⟨w.heap.size, 4, none⟩ = some (.slice ra nr cr) ∧ w'.cell? ⟨w.heap.size, 5, none⟩ = some (.slice wa nw cw) ∧ w'.cell? ⟨w.heap.size, 6, none⟩ = some (.slice (some ⟨bo, off, none⟩) n cb) ∧ w'.cell? ⟨w.heap.size, 7, none⟩ = some (.slice fa nf cf) ∧ w'.cell? ⟨w.heap.size, 8, none⟩ = some (.slice ga ngl cg) ∧ w'.cell? ⟨w.heap.size, 9, none⟩ = some (.slice qa nqz cq) ∧ w'.cell? ⟨w.heap.size, 10, none⟩ = some (.int .u64 k0) ∧ w'.cell? ⟨w.heap.size, 11, none⟩ = some (.int .u64 k1) ∧ w'.cell? ⟨w.heap.size, 12, none⟩ = some (.int .u64 k2) ∧ w'.cell? ⟨w.heap.size, 13, none⟩ = some (.int .u64 k3) ∧ w'.cell? ⟨w2.heap.size, 8, none⟩ = some (.slice (some ⟨b2, off2, none⟩) m ci) ∧ w'.cell? ⟨b2, off2 + s, none⟩ = some (.int .u64 u)) (first | exact K0 | exact K1 | exact K2) (first | (go_at_call_of 24 (Value.int .u64 u); refine WX1.out.mono ?_; rintro e w9 ⟨rfl, hb⟩; have B9 := hide (D1.trans (hb.mono D1.size)); have K1 := SF.out w9 B9.out; have WX2 := hide (WHY.out w9 (UPW.out _ (HB8.out.trans (B9.out.mono HB8.out.size)))); clear hb) | (go_at_call_of 24 (Value.int .u64 hh); refine WX2.out.mono ?_; rintro e w10 ⟨rfl, hb⟩; have B10 := hide (B9.out.trans (hb.mono B9.out.size)); have K2 := SF.out w10 B10.out; clear hb))
                              clear K0 K1 K2
                              go_wp2_with fail
                              go_ret
                              exact ⟨rfl, UPW.out _ (HB8.out.trans (B10.out.mono HB8.out.size))⟩
                        · go_upto_region 32 with (fail)
                          obtain ⟨x0, x1, x2, x3, x4, x5, x6, x7, x8, x9, x10, x11, x12, x13, p8, hcc⟩ := SF.out w8 (Below.refl _ _)
                          clear K0
                          first | (go_region_with (go_at_call_of 24 (Value.int .u64 u); refine WX1.out.mono ?_; rintro e w9 ⟨rfl, hb⟩; have B9 := hide (D1.trans (hb.mono D1.size)); have K1 := SF.out w9 B9.out; clear hb)) | fail
                          all_goals go_wp2_with fail
                          all_goals go_ret
                          all_goals exact ⟨rfl, UPW.out _ (HB8.out.trans (B9.out.mono HB8.out.size))⟩
                      · have t1 : decide ((0 : Int) ≤ sl0) = true := by simp; omega
                        have t2 : decide (sl0 < (m : Int)) = false := by simp; omega
                        go_upto_region 32 with (fail)
                        go_quiet (fail)
                        go_wp2_with fail
                        go_ret
                        exact ⟨rfl, below_drewN (UPW.out _ HB8.out) _⟩
                    · have t1 : decide ((0 : Int) ≤ sl0) = false := by simp; omega
                      go_upto_region 32 with (fail)
                      go_quiet (fail)
                      go_wp2_with fail
                      go_ret
                      exact ⟨rfl, below_drewN (UPW.out _ HB8.out) _⟩
end Hu
end Go.Proofs.Ytnodkeoikamonab
