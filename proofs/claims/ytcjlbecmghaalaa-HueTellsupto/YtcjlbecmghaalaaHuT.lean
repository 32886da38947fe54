/-
  Hue: HueTells' walk
-/
import Derived.Test.YtcjlbecmghaalaaHuS
import Derived.Test.YtcjlbecmghaalaaHuTd
import Derived.Test.YtcjlbecmghaalaaHuTe
import Derived.Test.YtcjlbecmghaalaaHuTg
namespace Go.Proofs.Ytcjlbecmghaalaa
open Go.RowKit
set_option linter.unusedVariables false
set_option linter.unusedSimpArgs false
set_option linter.unnecessarySimpa false
set_option maxRecDepth 20000
namespace Hu
open Gr
set_option maxHeartbeats 1000000 in
theorem same15 {w : World} {ao ao' : Option Addr} {n cap cap' : Nat} {l : List Int} (h : SeesN w ao l) (h' : SeesN w ao' l) (hl : l.length = n) (hn : n ≤ 9223372036854775807) :
    Calls Try.prog 19 #[.slice ao n cap, .slice ao' n cap'] w fun e w' => e = .returned (.bool true) ∧ Below w.heap.size w w' := by
  have H := hide h
  have H' := hide h'
  have HL := hide hl
  clear h h' hl
  go_enter Try.func19, Try.ntmps19
  go_wp2_with fail
  go_loopw [5] (fun i wr => ∃ k m : Nat, k ≤ n ∧ i = .int .i64 k ∧ wr = w.drewN m) (fun i _ => n - (intOf i).toNat)
  case atStart => exact ⟨0, 0, Nat.zero_le _, rfl, rfl⟩
  case round =>
    obtain ⟨k, m, hk, rfl, rfl⟩ := hrel
    by_cases hlt : k < n
    · obtain ⟨x, hx⟩ : ∃ x, l[k]? = some x := ⟨l[k]'(by rw [HL.out]; exact hlt), by simp [HL.out, hlt]⟩
      obtain ⟨b, off, rfl, hbl, hcc⟩ := H.out k x hx
      obtain ⟨b', off', rfl, hbl', hcc'⟩ := H'.out k x hx
      have hkn : (k : Int) < (n : Int) := by omega
      clear hx
      go_wp2
      go_quiet (fail)
      go_wp2
      go_roundw
      case rel => exact ⟨k + 1, _, by omega, by go_num, rfl⟩
      case measure => simp [intOf]; omega
    · have hkn : ¬ (k : Int) < (n : Int) := by omega
      go_wp2
      go_ret
      exact ⟨rfl, below_drewN (Below.refl _ _) _⟩

set_option maxHeartbeats 8000000 in
theorem tells_walk {c : Vc} {a : Av} {w : World} {gl bs : List Int} {ba : Option Addr} {bc : Nat} (h0 : H0 w c a gl ba bs) (hS : Shows w c a) (hBv : Bv c) : Calls Try.prog 3 #[vl c a, .slice ba bs.length bc] w fun e w' => e = .returned (.bool true) ∧ Below w.heap.size w w' := by
  obtain ⟨W0, hW0, B0, R0⟩ := vbox w c a
  have VF := hide (fun (wx : World) (hb : Below W0.heap.size W0 wx) => vcells (row_on R0 hb))
  have HB0 := hide B0
  have HSb := hide (h0.s.below B0)
  have GR := hide (fun (wx : World) (hb : Below w.heap.size w wx) => great_ok (bc := bc) (w := wx) ⟨h0.s.below hb, h0.b, h0.n.below hb, h0.cb, h0.no, h0.ng, h0.g.below hb, h0.l.below hb, h0.gl, h0.bl⟩)
  have HY := hide (fun (hs : Sm c gl bs) (wx : World) (hb : Below w.heap.size w wx) => h0.hy hs hb)
  have ST := hide (fun (hs : Sm c gl bs) (wx : World) (hb : Below w.heap.size w wx) => strong_ok (bc := bc) (h0.hy hs hb))
  have WK := hide (fun (hs : Sm c gl bs) (wx : World) (hb : Below w.heap.size w wx) => weak_ok (bc := bc) (h0.hy hs hb))
  have SO := hide (fun (hs : Sm c gl bs) (wx : World) (hb : Below w.heap.size w wx) => sorts_ok (bc := bc) (h0.hy hs hb))
  have UPW := hide (fun (wx : World) (hb : Below W0.heap.size W0 wx) => show Below w.heap.size w wx from HB0.out.trans (hb.mono HB0.out.size))
  have RST := hide (fun (hs : Sm c gl bs) (wx : World) (hb : Below w.heap.size w wx) => rstrong_ok (bc := bc) (h0.hy hs hb))
  have RWK := hide (fun (hs : Sm c gl bs) (wx : World) (hb : Below w.heap.size w wx) => rweak_ok (bc := bc) (h0.hy hs hb))
  have RSO := hide (fun (hs : Sm c gl bs) (wx : World) (hb : Below w.heap.size w wx) => rsorts_ok (bc := bc) (h0.hy hs hb))
  have SF := hide (fun (wx : World) (hb : Below w.heap.size w wx) => safe_ok (hS.below hb) hBv)
  have RSF := hide (fun (wx : World) (hb : Below w.heap.size w wx) => rsafe_ok (hS.below hb) hBv)
  clear hS hBv
  have hno := h0.no
  have SME := hide (fun (hs : Sm c gl bs) => hs.a)
  have l0 : w.heap.size < W0.heap.size := R0.lt
  clear h0 B0 R0
  obtain ⟨ph, co, ro, aa, na, ca, ra, cr, wa, nw, cw, oa, cb, fa, nf, cf, ga, ng, cg, qa, cq, k0, k1, k2, k3⟩ := a
  simp only [vl] at GR ST WK SO RST RWK RSO SF RSF ⊢
  simp only at hW0 VF GR ST WK SO HSb RST RWK RSO SF RSF
  unfold Tt at RSO
  unfold Gt at GR
  unfold Tt at SO
  obtain ⟨n, hn⟩ : ∃ n, c.os.length = n := ⟨_, rfl⟩
  obtain ⟨nr, hnre⟩ : ∃ nr, c.rs.length = nr := ⟨_, rfl⟩
  obtain ⟨nqz, hnqe⟩ : ∃ nqz, c.qu.length = nqz := ⟨_, rfl⟩
  obtain ⟨nbs, hnbs⟩ : ∃ nbs, bs.length = nbs := ⟨_, rfl⟩
  obtain ⟨ws, hws⟩ : ∃ ws, gl ++ bs = ws := ⟨_, rfl⟩
  obtain ⟨os, hos⟩ : ∃ os, c.os = os := ⟨_, rfl⟩
  rw [hos] at HSb hn
  simp only [hos, hws] at ST WK SO SME RST RWK RSO SF RSF
  simp only [hn, hos, hnre, hnqe, hnbs] at hW0 VF GR ST WK SO hno SME RST RWK RSO SF RSF ⊢
  have Hn := hide hn
  clear hn hnre hnqe hos hnbs hws
  go_enter Try.func3, Try.ntmps3
  go_upto_region 3 with (go_at_call 9; refine (awake_ok).mono ?_; rintro e w1 ⟨rfl, hb⟩; have HB1 := hide hb; clear hb)
  clear hW0
  obtain ⟨x0, x1, x2, x3, x4, x5, x6, x7, x8, x9, x10, x11, x12, x13⟩ := VF.out w1 HB1.out
  go_upto_if 27 with (go_at_call 10; refine (GR.out _ (UPW.out _ HB1.out)).mono ?_; rintro e w2 ⟨v, rfl, hsm, hb⟩; have HSM := hide hsm; have HB2 := hide (HB1.out.trans (hb.mono HB1.out.size)); clear hsm hb)
  cases v
  case true =>
    go_wp2_with fail
    go_ret
    exact ⟨rfl, UPW.out _ HB2.out⟩
  case false =>
    have hsm := HSM.out rfl
    have hs3 := SME.out hsm
    have ST2 := hide (ST.out hsm)
    have WK2 := hide (WK.out hsm)
    have SO2 := hide (SO.out hsm)
    have RST2 := hide (RST.out hsm)
    have RWK2 := hide (RWK.out hsm)
    have RSO2 := hide (RSO.out hsm)
    obtain ⟨rS, hrS⟩ : ∃ r : Int, (fs (stp os ws) n : Int) = r := ⟨_, rfl⟩
    obtain ⟨eS, heS⟩ : ∃ e, er (fs (stp os ws) n) = e := ⟨_, rfl⟩
    obtain ⟨rW, hrW⟩ : ∃ r : Int, (fs (wkp os ws) n : Int) = r := ⟨_, rfl⟩
    obtain ⟨eW, heW⟩ : ∃ e, er (fs (wkp os ws) n) = e := ⟨_, rfl⟩
    rw [hrS, heS] at ST2 RST2
    rw [hrW, heW] at WK2 RWK2
    obtain ⟨q1, hq1⟩ : ∃ e, s1 (sfl c) = e := ⟨_, rfl⟩
    obtain ⟨q2, hq2⟩ : ∃ e, s2 (sfl c) = e := ⟨_, rfl⟩
    rw [hq1, hq2] at SF RSF
    obtain ⟨l1, hl1⟩ : ∃ l, nb os ws 1 n = l := ⟨_, rfl⟩
    obtain ⟨l2, hl2⟩ : ∃ l, nb os ws 2 n = l := ⟨_, rfl⟩
    obtain ⟨l3, hl3⟩ : ∃ l, nb os ws 3 n = l := ⟨_, rfl⟩
    rw [hl1, hl2, hl3] at SO2 RSO2
    obtain ⟨n1, hn1⟩ : ∃ m, l1.length = m := ⟨_, rfl⟩
    obtain ⟨n2, hn2⟩ : ∃ m, l2.length = m := ⟨_, rfl⟩
    obtain ⟨n3, hn3⟩ : ∃ m, l3.length = m := ⟨_, rfl⟩
    rw [hn1, hn2, hn3] at SO2 RSO2
    have hn1n : n1 ≤ n := by rw [← hn1, ← hl1]; exact nb_len _ _ _ _
    have hn2n : n2 ≤ n := by rw [← hn2, ← hl2]; exact nb_len _ _ _ _
    have hn3n : n3 ≤ n := by rw [← hn3, ← hl3]; exact nb_len _ _ _ _
    have HE := hide (And.intro hn1 (And.intro hn2 hn3))
    have hn3k : n ≤ 3000 := by omega
    clear hl1 hl2 hl3 hn1 hn2 hn3 hrS heS hrW heW hq1 hq2 hsm ST WK SO RST RWK RSO HSM GR SME hs3
    go_upto_region 5 with (fail)
    clear x0 x1 x2 x3 x4 x5 x6 x7 x8 x9 x10 x11 x12 x13
    obtain ⟨x0, x1, x2, x3, x4, x5, x6, x7, x8, x9, x10, x11, x12, x13⟩ := VF.out w2 HB2.out
    go_upto_region 6 with (go_at_call 11; refine (RST2.out _ (UPW.out _ HB2.out)).mono ?_; rintro e w3 ⟨rfl, hb⟩; have HB3 := hide (HB2.out.trans (hb.mono HB2.out.size)); clear hb)
    clear x0 x1 x2 x3 x4 x5 x6 x7 x8 x9 x10 x11 x12 x13
    obtain ⟨x0, x1, x2, x3, x4, x5, x6, x7, x8, x9, x10, x11, x12, x13⟩ := VF.out w3 HB3.out
    go_upto_region 7 with (go_at_call 12; refine (RWK2.out _ (UPW.out _ HB3.out)).mono ?_; rintro e w4 ⟨rfl, hb⟩; have HB4 := hide (HB3.out.trans (hb.mono HB3.out.size)); clear hb)
    clear x0 x1 x2 x3 x4 x5 x6 x7 x8 x9 x10 x11 x12 x13
    obtain ⟨x0, x1, x2, x3, x4, x5, x6, x7, x8, x9, x10, x11, x12, x13⟩ := VF.out w4 HB4.out
    go_upto_region 8 with (go_at_call 13; refine (RSF.out _ (UPW.out _ HB4.out)).mono ?_; rintro e w5 ⟨rfl, hb⟩; have HB5 := hide (HB4.out.trans (hb.mono HB4.out.size)); clear hb)
    clear x0 x1 x2 x3 x4 x5 x6 x7 x8 x9 x10 x11 x12 x13
    obtain ⟨x0, x1, x2, x3, x4, x5, x6, x7, x8, x9, x10, x11, x12, x13⟩ := VF.out w5 HB5.out
    go_upto_region 9 with (go_at_call 14; refine (RSO2.out _ (UPW.out _ HB5.out)).mono ?_; rintro e w6 ⟨b1, d1, b2, d2, b3, d3, rfl, ho1, ho2, ho3, hb⟩; have HB6 := hide (HB5.out.trans (hb.mono HB5.out.size)); have G1 := hide (own_seesN ho1); have G2 := hide (own_seesN ho2); have G3 := hide (own_seesN ho3); clear ho1 ho2 ho3; clear hb)
    clear x0 x1 x2 x3 x4 x5 x6 x7 x8 x9 x10 x11 x12 x13
    obtain ⟨x0, x1, x2, x3, x4, x5, x6, x7, x8, x9, x10, x11, x12, x13⟩ := VF.out w6 HB6.out
    go_upto_region 10 with (go_at_call 15; refine (ST2.out _ (UPW.out _ HB6.out)).mono ?_; rintro e w7 ⟨rfl, hb⟩; have HB7 := hide (HB6.out.trans (hb.mono HB6.out.size)); have G17 := hide (G1.out.below hb); have G27 := hide (G2.out.below hb); have G37 := hide (G3.out.below hb); clear hb)
    clear x0 x1 x2 x3 x4 x5 x6 x7 x8 x9 x10 x11 x12 x13
    obtain ⟨x0, x1, x2, x3, x4, x5, x6, x7, x8, x9, x10, x11, x12, x13⟩ := VF.out w7 HB7.out
    go_upto_region 11 with (go_at_call 16; refine (WK2.out _ (UPW.out _ HB7.out)).mono ?_; rintro e w8 ⟨rfl, hb⟩; have HB8 := hide (HB7.out.trans (hb.mono HB7.out.size)); have G18 := hide (G17.out.below hb); have G28 := hide (G27.out.below hb); have G38 := hide (G37.out.below hb); clear hb)
    clear x0 x1 x2 x3 x4 x5 x6 x7 x8 x9 x10 x11 x12 x13
    obtain ⟨x0, x1, x2, x3, x4, x5, x6, x7, x8, x9, x10, x11, x12, x13⟩ := VF.out w8 HB8.out
    go_upto_region 12 with (go_at_call 17; refine (SF.out _ (UPW.out _ HB8.out)).mono ?_; rintro e w9 ⟨rfl, hb⟩; have HB9 := hide (HB8.out.trans (hb.mono HB8.out.size)); have G19 := hide (G18.out.below hb); have G29 := hide (G28.out.below hb); have G39 := hide (G38.out.below hb); clear hb)
    clear x0 x1 x2 x3 x4 x5 x6 x7 x8 x9 x10 x11 x12 x13
    obtain ⟨x0, x1, x2, x3, x4, x5, x6, x7, x8, x9, x10, x11, x12, x13⟩ := VF.out w9 HB9.out
    go_upto_region 13 with (go_at_call 18; refine (SO2.out _ (UPW.out _ HB9.out)).mono ?_; rintro e w10 ⟨a1, c1, a2, c2, a3, c3, rfl, ho1, ho2, ho3, hb⟩; have HB10 := hide (HB9.out.trans (hb.mono HB9.out.size)); have G1t := hide (G19.out.below hb); have G2t := hide (G29.out.below hb); have G3t := hide (G39.out.below hb); have K1 := hide (own_seesN ho1); have K2 := hide (own_seesN ho2); have K3 := hide (own_seesN ho3); clear ho1 ho2 ho3; clear hb)
    clear x0 x1 x2 x3 x4 x5 x6 x7 x8 x9 x10 x11 x12 x13 ST2 WK2 SO2 RST2 RWK2 RSO2 SF RSF G1 G2 G3 G17 G27 G37 G18 G28 G38 G19 G29 G39
    have SM1 := hide (fun (wx : World) (hb : Below w10.heap.size w10 wx) => same15 (cap := c1) (cap' := d1) (K1.out.below hb) (G1t.out.below hb) HE.out.1 (by omega))
    have SM2 := hide (fun (wx : World) (hb : Below w10.heap.size w10 wx) => same15 (cap := c2) (cap' := d2) (K2.out.below hb) (G2t.out.below hb) HE.out.2.1 (by omega))
    have SM3 := hide (fun (wx : World) (hb : Below w10.heap.size w10 wx) => same15 (cap := c3) (cap' := d3) (K3.out.below hb) (G3t.out.below hb) HE.out.2.2 (by omega))
    clear K1 K2 K3 G1t G2t G3t
    go_wp2_with (first
      | (go_at_call_of 19 (Value.slice a1 n1 c1); refine (SM1.out _ (Below.refl _ _)).mono ?_; rintro e w11 ⟨rfl, hb⟩; have HB11 := hide hb; clear hb)
      | (go_at_call_of 19 (Value.slice a2 n2 c2); refine (SM2.out _ HB11.out).mono ?_; rintro e w12 ⟨rfl, hb⟩; have HB12 := hide (HB11.out.trans (hb.mono HB11.out.size)); clear hb)
      | (go_at_call_of 19 (Value.slice a3 n3 c3); refine (SM3.out _ HB12.out).mono ?_; rintro e w13 ⟨rfl, hb⟩; have HB13 := hide (HB12.out.trans (hb.mono HB12.out.size)); clear hb))
    go_ret
    exact ⟨rfl, UPW.out _ (HB10.out.trans (HB13.out.mono HB10.out.size))⟩
end Hu
end Go.Proofs.Ytcjlbecmghaalaa
