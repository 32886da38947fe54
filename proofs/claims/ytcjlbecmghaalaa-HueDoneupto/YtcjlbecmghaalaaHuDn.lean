/-
  Hue: HueDone's walk
-/
import Derived.Test.YtcjlbecmghaalaaHuS
namespace Go.Proofs.Ytcjlbecmghaalaa
open Go.RowKit
set_option linter.unusedVariables false
set_option linter.unusedSimpArgs false
set_option linter.unnecessarySimpa false
set_option maxRecDepth 20000
namespace Hu
open Gr
theorem gd_mod {os : List Ob} {h : Int} (hg : gd os h ≠ 0) : (gd os h : Int) = h % 4294967296 := by
  cases ho : os[(h % 4294967296).toNat - 1]? with
  | none => simp [gd, ho] at hg
  | some o =>
    by_cases hc : 1 ≤ h % 4294967296 ∧ o.us = true ∧ o.ge = h / 4294967296
    · have e : gd os h = (h % 4294967296).toNat := by simp only [gd, ho]; rw [if_pos hc]
      rw [e]; omega
    · exact absurd (by simp only [gd, ho]; rw [if_neg hc]) hg
/-- A good handle of an object is its own. -/
theorem gd_hof {os : List Ob} {h : Int} (h0 : 0 ≤ h ∧ h < 18446744073709551616) (hg : gd os h ≠ 0) : h = hof os (gd os h : Int) := by
  obtain ⟨o, h1, h2, h3⟩ := gd_used hg
  have h4 := gd_mod hg
  have e : (gd os h : Int) = ((gd os h - 1 : Nat) : Int) + 1 := by omega
  rw [e, hof_at h1, ← e, h4, h3]
  unfold hd
  omega
theorem done_wh {os : List Ob} {ws ft : List Int} (hw : Wd ft) (hn : ∀ x ∈ nb os ws 1 os.length, ∀ h ∈ ft, h ≠ hof os x) : ∀ h ∈ ft, wh os ws h = 0 := by
  intro h hm
  cases hq : wh os ws h with
  | zero => rfl
  | succ q =>
    exfalso
    obtain ⟨h1, h2, h3⟩ := wh_ne (os := os) (ws := ws) (h := h) (by omega)
    have h4 := gd_le os h
    refine hn (gd os h : Int) (nb_mem.2 ⟨gd os h - 1, by omega, h3, by omega⟩) h hm (gd_hof (hw h hm) h2)

set_option maxHeartbeats 8000000 in
theorem done_walk {c : Vc} {a : Av} {w : World} {gl bs : List Int} {ba : Option Addr} {bc : Nat} (h0 : H0 w c a gl ba bs) (hS : Shows w c a) (hBv : Bv c) : Calls Try.prog 5 #[vl c a, .slice ba bs.length bc] w fun e w' => e = .returned (.bool true) ∧ Below w.heap.size w w' := by
  obtain ⟨W0, hW0, B0, R0⟩ := vbox w c a
  have VF := hide (fun (wx : World) (hb : Below W0.heap.size W0 wx) => vcells (row_on R0 hb))
  have HB0 := hide B0
  have HSb := hide (h0.s.below B0)
  have GR := hide (fun (wx : World) (hb : Below w.heap.size w wx) => great_ok (bc := bc) (w := wx) ⟨h0.s.below hb, h0.b, h0.n.below hb, h0.cb, h0.no, h0.ng, h0.g.below hb, h0.l.below hb, h0.gl, h0.bl⟩)
  have HY := hide (fun (hs : Sm c gl bs) (wx : World) (hb : Below w.heap.size w wx) => h0.hy hs hb)
  have ST := hide (fun (hs : Sm c gl bs) (wx : World) (hb : Below w.heap.size w wx) => strong_ok (bc := bc) (h0.hy hs hb))
  have WK := hide (fun (hs : Sm c gl bs) (wx : World) (hb : Below w.heap.size w wx) => weak_ok (bc := bc) (h0.hy hs hb))
  have SO := hide (fun (hs : Sm c gl bs) (wx : World) (hb : Below w.heap.size w wx) => sorts_ok (bc := bc) (h0.hy hs hb))
  have UPW := hide (fun (wx : World) (hb : Below W0.heap.size W0 wx) => show Below w.heap.size w wx from HB0.out.trans (hb.mono HB0.out.size))
  have RO := hide (fun (wx : World) (hb : Below w.heap.size w wx) => roots_ok (hS.below hb) hBv)
  have LI := hide (fun (wx : World) (hb : Below w.heap.size w wx) => live_ok (hS.below hb) hBv)
  have HQU := hide (hS.qu.below B0)
  have HWD := hide (rts_wd hBv)
  have hnq := hBv.nq
  have hrl := rts_len hBv
  obtain ⟨ft, hft⟩ : ∃ ft, rts c = ft := ⟨_, rfl⟩
  rw [hft] at RO LI HWD hrl
  obtain ⟨nf2, hnf2⟩ : ∃ m, ft.length = m := ⟨_, rfl⟩
  unfold Ut at RO
  unfold Bt at LI
  rw [hnf2] at RO hrl
  have Hnf := hide hnf2
  clear hft hnf2 hS hBv
  have hno := h0.no
  have SME := hide (fun (hs : Sm c gl bs) => hs.a)
  have l0 : w.heap.size < W0.heap.size := R0.lt
  clear h0 B0 R0
  obtain ⟨ph, co, ro, aa, na, ca, ra, cr, wa, nw, cw, oa, cb, fa, nf, cf, ga, ng, cg, qa, cq, k0, k1, k2, k3⟩ := a
  simp only [vl] at GR ST WK SO RO LI HQU hnq ⊢
  simp only at hW0 VF GR ST WK SO HSb RO LI HQU hnq
  unfold Gt at GR
  unfold Tt at SO
  obtain ⟨n, hn⟩ : ∃ n, c.os.length = n := ⟨_, rfl⟩
  obtain ⟨nr, hnre⟩ : ∃ nr, c.rs.length = nr := ⟨_, rfl⟩
  obtain ⟨nqz, hnqe⟩ : ∃ nqz, c.qu.length = nqz := ⟨_, rfl⟩
  obtain ⟨nbs, hnbs⟩ : ∃ nbs, bs.length = nbs := ⟨_, rfl⟩
  obtain ⟨ws, hws⟩ : ∃ ws, gl ++ bs = ws := ⟨_, rfl⟩
  obtain ⟨os, hos⟩ : ∃ os, c.os = os := ⟨_, rfl⟩
  rw [hos] at HSb hn
  simp only [hos, hws] at ST WK SO SME RO LI HQU hnq
  simp only [hn, hos, hnre, hnqe, hnbs] at hW0 VF GR ST WK SO hno SME RO LI HQU hnq ⊢
  have Hn := hide hn
  have Hnq := hide hnqe
  clear hn hnre hnqe hos hnbs hws
  go_enter Try.func5, Try.ntmps5
  go_upto_region 3 with (go_at_call 9; refine (awake_ok).mono ?_; rintro e w1 ⟨rfl, hb⟩; have HB1 := hide hb; clear hb)
  clear hW0
  obtain ⟨x0, x1, x2, x3, x4, x5, x6, x7, x8, x9, x10, x11, x12, x13⟩ := VF.out w1 HB1.out
  go_upto_if 21 with (go_at_call 10; refine (GR.out _ (UPW.out _ HB1.out)).mono ?_; rintro e w2 ⟨v, rfl, hsm, hb⟩; have HSM := hide hsm; have HB2 := hide (HB1.out.trans (hb.mono HB1.out.size)); clear hsm hb)
  cases v
  case true =>
    go_wp2_with fail
    go_ret
    exact ⟨rfl, UPW.out _ HB2.out⟩
  case false =>
    have hsm := HSM.out rfl
    have hs3 := SME.out hsm
    have WK2 := hide (WK.out hsm)
    have SO2 := hide (SO.out hsm)
    obtain ⟨rW, hrW⟩ : ∃ r, fs (wkp os ws) n = r := ⟨_, rfl⟩
    rw [hrW] at WK2
    have HRW := hide hrW
    obtain ⟨eW, heW⟩ : ∃ e, er rW = e := ⟨_, rfl⟩
    rw [heW] at WK2
    have HEW := hide (show eW = 0 → rW = 0 by rw [← heW]; exact er_iff.1)
    obtain ⟨l1, hl1⟩ : ∃ l, nb os ws 1 n = l := ⟨_, rfl⟩
    obtain ⟨l2, hl2⟩ : ∃ l, nb os ws 2 n = l := ⟨_, rfl⟩
    obtain ⟨l3, hl3⟩ : ∃ l, nb os ws 3 n = l := ⟨_, rfl⟩
    rw [hl1, hl2, hl3] at SO2
    obtain ⟨n1, hn1⟩ : ∃ m, l1.length = m := ⟨_, rfl⟩
    obtain ⟨n2, hn2⟩ : ∃ m, l2.length = m := ⟨_, rfl⟩
    obtain ⟨n3, hn3⟩ : ∃ m, l3.length = m := ⟨_, rfl⟩
    rw [hn1, hn2, hn3] at SO2
    have hn1n : n1 ≤ n := by rw [← hn1, ← hl1]; exact nb_len _ _ _ _
    have MEM := hide (show ∀ x ∈ l1, ∃ q : Nat, q < n ∧ x = (q : Int) + 1 ∧ col os ws q = 1 from fun x hx => by rw [← hl1] at hx; obtain ⟨q, h1, h2, h3⟩ := nb_mem.1 hx; exact ⟨q, h1, h3, h2⟩)
    have HE1 := hide hn1
    have DN := hide (show rW = 0 → n2 = 0 → (∀ x ∈ l1, ∀ h ∈ ft, h ≠ hof os x) → ∀ q, q < n → col os ws q = 1 → rb os ft q = false by
      intro h1 h2 h3 q hq hc
      have e2 : nb os ws 2 os.length = [] := by rw [Hn.out, hl2]; exact List.length_eq_zero_iff.1 (by rw [hn2]; exact h2)
      have e1 : fs (wkp os ws) os.length = 0 := by rw [Hn.out, hrW]; exact h1
      have hf := done_wh (os := os) (ws := ws) HWD.out (by rw [Hn.out, hl1]; exact h3)
      cases hb : rb os ft q with
      | false => rfl
      | true =>
        have := (done_live e1 e2 hf ((rb_iff os ft q).1 hb)).1
        exact absurd hc (by simpa using this))
    have hn3k : n ≤ 3000 := by omega
    clear hl1 hl2 hl3 hn1 hn2 hn3 hrW heW hsm ST WK SO HSM GR SME hs3
    go_upto_region 5 with (fail)
    clear x0 x1 x2 x3 x4 x5 x6 x7 x8 x9 x10 x11 x12 x13
    obtain ⟨x0, x1, x2, x3, x4, x5, x6, x7, x8, x9, x10, x11, x12, x13⟩ := VF.out w2 HB2.out
    go_upto_region 6 with (go_at_call 16; refine (WK2.out _ (UPW.out _ HB2.out)).mono ?_; rintro e w3 ⟨rfl, hb⟩; have HB3 := hide (HB2.out.trans (hb.mono HB2.out.size)); clear hb)
    clear x0 x1 x2 x3 x4 x5 x6 x7 x8 x9 x10 x11 x12 x13
    obtain ⟨x0, x1, x2, x3, x4, x5, x6, x7, x8, x9, x10, x11, x12, x13⟩ := VF.out w3 HB3.out
    go_upto_region 7 with (go_at_call 18; refine (SO2.out _ (UPW.out _ HB3.out)).mono ?_; rintro e w4 ⟨a1, c1, a2, c2, a3, c3, rfl, ho1, ho2, ho3, hb⟩; have G1 := hide (own_seesN ho1); have HB4 := hide (HB3.out.trans (hb.mono HB3.out.size)); clear ho1 ho2 ho3 hb)
    clear x0 x1 x2 x3 x4 x5 x6 x7 x8 x9 x10 x11 x12 x13 HB3 HB2 HB1
    by_cases he : eW = 0
    · by_cases h2 : n2 = 0
      · have DN2 := hide (DN.out (HEW.out he) h2)
        have he2 : (eW != 0) = false := by simp [he]
        have h2b : ¬ (0 : Int) < (n2 : Int) := by omega
        obtain ⟨x0, x1, x2, x3, x4, x5, x6, x7, x8, x9, x10, x11, x12, x13⟩ := VF.out w4 HB4.out
        clear he h2
        go_upto_region 10 with (go_at_call 20; refine (RO.out _ (UPW.out _ HB4.out)).mono ?_; rintro e w5 ⟨ao, cp, rfl, hown, hb⟩; have GF := hide (own_seesU hown); have G15 := hide (G1.out.below hb); have HB5 := hide (HB4.out.trans (hb.mono HB4.out.size)); clear hown hb)
        clear x0 x1 x2 x3 x4 x5 x6 x7 x8 x9 x10 x11 x12 x13 he2 h2b
        go_wp2_with fail
        go_loopw [11] (fun i wr => ∃ (k : Nat), k ≤ n1 ∧ i = .int .i64 k ∧ Hid (∀ x ∈ l1.take k, ∀ h ∈ ft, h ≠ hof os x) ∧ Hid (Below w5.heap.size w5 wr)) (fun i _ => n1 - (intOf i).toNat)
        case atStart => exact ⟨0, Nat.zero_le _, rfl, (fun x hx => by simp at hx : ∀ x ∈ l1.take 0, ∀ h ∈ ft, h ≠ hof os x), Below.refl _ _⟩
        case round =>
          obtain ⟨k, hk, rfl, HK, HBk⟩ := hrel
          have BXk := hide (show Below W0.heap.size W0 wr from HB5.out.trans (HBk.out.mono HB5.out.size))
          by_cases hlt : k < n1
          · have hkn : (k : Int) < (n1 : Int) := by omega
            obtain ⟨x, hx⟩ : ∃ x, l1[k]? = some x := ⟨l1[k]'(by rw [HE1.out]; exact hlt), by simp [HE1.out, hlt]⟩
            obtain ⟨b1, off1, ha1, hbl1, hc1⟩ := G15.out.below HBk.out k x hx
            subst ha1
            obtain ⟨q, hq, rfl, hcq⟩ := MEM.out x (List.mem_of_getElem? hx)
            have hq2 : (q : Int) < (n : Int) := by omega
            obtain ⟨o, ho⟩ : ∃ o, os[q]? = some o := ⟨os[q]'(by rw [Hn.out]; exact hq), by simp [Hn.out, hq]⟩
            obtain ⟨bo, off, ai, ci, hoa, hbl2, hoc, hse⟩ := HSb.out.below BXk.out q o ho
            subst hoa
            have O5 := hide (fun (wx : World) (hb : Below wr.heap.size wr wx) => show wx.cell? ⟨bo, off + q * 9 + 5, none⟩ = some (.int .u64 o.ge) from (hb.cell (p := ⟨bo, off + q * 9 + 5, none⟩) hbl2).trans (Ob.cells9 hoc).2.2.2.2.2.1)
            have HOF := hide (hof_at ho)
            have HAN := hide (fun w1 => handle_any ((q : Int) + 1) o.ge w1)
            obtain ⟨hv, hhv⟩ : ∃ hv, hd ((q : Int) + 1) o.ge = hv := ⟨_, rfl⟩
            rw [hhv] at HOF HAN
            have NXT := hide (show (∀ h ∈ ft, h ≠ hv) → ∀ x ∈ l1.take (k + 1), ∀ h ∈ ft, h ≠ hof os x from fun hh x hx' => by
              rw [List.take_add_one, hx] at hx'
              rcases List.mem_append.1 hx' with hx' | hx'
              · exact HK.out x hx'
              · simp at hx'
                subst hx'
                rw [HOF.out]
                exact hh)
            clear hx hoc hse ho hcq hhv
            obtain ⟨wk, rfl⟩ : ∃ wk, wk = wr := ⟨_, rfl⟩
            go_wp2_with fail
            clear hc1
            go_loopw [13] (fun i wr => ∃ (j : Nat), j ≤ nf2 ∧ i = .int .i64 j ∧ Hid (∀ h ∈ ft.take j, h ≠ hv) ∧ Hid (Below wk.heap.size wk wr)) (fun i _ => nf2 - (intOf i).toNat)
            case atStart => exact ⟨0, Nat.zero_le _, rfl, (fun x hx => by simp at hx : ∀ h ∈ ft.take 0, h ≠ hv), Below.refl _ _⟩
            case round =>
              obtain ⟨j, hj, rfl, HJ, HBj⟩ := hrel
              have B5j := hide (show Below w5.heap.size w5 wr from HBk.out.trans (HBj.out.mono HBk.out.size))
              have BXj := hide (show Below W0.heap.size W0 wr from HB5.out.trans (B5j.out.mono HB5.out.size))
              by_cases hlt2 : j < nf2
              · have hjn : (j : Int) < (nf2 : Int) := by omega
                obtain ⟨u, hu⟩ : ∃ u, ft[j]? = some u := ⟨ft[j]'(by rw [Hnf.out]; exact hlt2), by simp [Hnf.out, hlt2]⟩
                obtain ⟨b2, off2, ha2, hbl3, hc2⟩ := GF.out.below B5j.out j u hu
                subst ha2
                have o5 := O5.out wr HBj.out
                have x6 := (VF.out wr BXj.out).2.2.2.2.2.2.1
                have NX2 := hide (show u ≠ hv → ∀ h ∈ ft.take (j + 1), h ≠ hv from fun hne h hm => by
                  rw [List.take_add_one, hu] at hm
                  rcases List.mem_append.1 hm with hm | hm
                  · exact HJ.out h hm
                  · simp at hm; subst hm; exact hne)
                have l3 : IntKind.i64.wrap (q : Int) = (q : Int) := by rw [IntKind.wrap_i64]; omega
                clear hu
                by_cases huv : u = hv
                · have e1 : (u == hv) = true := by simp [huv]
                  clear huv NX2
                  go_upto_region 17 with (fail)
                  go_quiet ((go_at_call 21; exact Calls.quiet_of_same (HAN.out _)))
                  go_wp2_with fail
                  go_ret
                  exact ⟨rfl, below_drewN (UPW.out _ BXj.out) _⟩
                · have e1 : (u == hv) = false := by simp [huv]
                  have NN := hide (NX2.out huv)
                  clear huv NX2
                  go_upto_region 17 with (fail)
                  go_quiet ((go_at_call 21; exact Calls.quiet_of_same (HAN.out _)))
                  go_wp2_with fail
                  go_roundw
                  case rel => exact ⟨j + 1, by omega, by go_num, NN.out, below_drewN HBj.out _⟩
                  case measure => simp [intOf]; omega
              · have hjn : ¬ (j : Int) < (nf2 : Int) := by omega
                have e0 : ft.take j = ft := List.take_of_length_le (by rw [Hnf.out]; omega)
                rw [e0] at HJ
                have NN := hide (NXT.out HJ.out)
                clear NXT HJ e0 hj hlt2
                obtain ⟨wj, rfl⟩ : ∃ wj, wj = wr := ⟨_, rfl⟩
                go_wp2_with fail
                clear hjn
                go_loopw [14] (fun i wr => ∃ (j : Nat), j ≤ nqz ∧ i = .int .i64 j ∧ wr = wj) (fun i _ => nqz - (intOf i).toNat)
                case atStart => exact ⟨0, Nat.zero_le _, rfl, rfl⟩
                case round =>
                  obtain ⟨j, hj, rfl, rfl⟩ := hrel
                  have x9 := (VF.out wr BXj.out).2.2.2.2.2.2.2.2.2.1
                  by_cases hlt2 : j < nqz
                  · have hjn : (j : Int) < (nqz : Int) := by omega
                    obtain ⟨y, hy⟩ : ∃ y, c.qu[j]? = some y := ⟨c.qu[j]'(by rw [Hnq.out]; exact hlt2), by simp [Hnq.out, hlt2]⟩
                    obtain ⟨b2, off2, ha2, hbl3, hc2⟩ := HQU.out.below BXj.out j y hy
                    subst ha2
                    clear hy
                    by_cases hyx : y = (q : Int) + 1
                    · have e1 : (y == (q : Int) + 1) = true := by simp [hyx]
                      clear hyx
                      go_wp2_with fail
                      go_ret
                      exact ⟨rfl, UPW.out _ BXj.out⟩
                    · have e1 : (y == (q : Int) + 1) = false := by simp [hyx]
                      clear hyx
                      go_wp2_with fail
                      go_roundw
                      case rel => exact ⟨j + 1, by omega, by go_num, by first | rfl | trivial⟩
                      case measure => simp [intOf]; omega
                  · have hjn : ¬ (j : Int) < (nqz : Int) := by omega
                    go_wp2_with fail
                    go_roundw
                    case rel => exact ⟨k + 1, by omega, by go_num, NN.out, B5j.out⟩
                    case measure => simp [intOf]; omega
          · have hkn : ¬ (k : Int) < (n1 : Int) := by omega
            have e0 : l1.take k = l1 := List.take_of_length_le (by rw [HE1.out]; omega)
            rw [e0] at HK
            have DX := hide (DN2.out HK.out)
            have B5d := BXk
            have G1d := hide (show SeesN wr a1 l1 from G15.out.below HBk.out)
            obtain ⟨w6, rfl⟩ : ∃ w6, w6 = wr := ⟨_, rfl⟩
            clear e0 hk hlt
            obtain ⟨x0, x1, x2, x3, x4, x5, x6, x7, x8, x9, x10, x11, x12, x13⟩ := VF.out w6 B5d.out
            go_upto_region 25 with (go_at_call 22; refine (LI.out _ (UPW.out _ B5d.out)).mono ?_; rintro e w7 ⟨gr, rfl, hgr, hrow, hb⟩; have HR7 := hide hrow; have G17 := hide (G1d.out.below hb); have HB7 := hide (B5d.out.trans (hb.mono B5d.out.size)); clear hrow hb)
            clear x0 x1 x2 x3 x4 x5 x6 x7 x8 x9 x10 x11 x12 x13 hkn
            go_wp2_with fail
            go_loopw [16] (fun i wr => ∃ (j : Nat), j ≤ n1 ∧ i = .int .i64 j ∧ wr = w7) (fun i _ => n1 - (intOf i).toNat)
            case atStart => exact ⟨0, Nat.zero_le _, rfl, rfl⟩
            case round =>
              obtain ⟨j, hj, rfl, rfl⟩ := hrel
              by_cases hlt2 : j < n1
              · have hjn : (j : Int) < (n1 : Int) := by omega
                obtain ⟨x, hx⟩ : ∃ x, l1[j]? = some x := ⟨l1[j]'(by rw [HE1.out]; exact hlt2), by simp [HE1.out, hlt2]⟩
                obtain ⟨b1, off1, ha1, hbl1, hc1⟩ := G17.out j x hx
                subst ha1
                obtain ⟨q, hq, rfl, hcq⟩ := MEM.out x (List.mem_of_getElem? hx)
                have hq2 : (q : Int) < (n : Int) := by omega
                have rx := HR7.out.cell hq
                have hf := DX.out q hq hcq
                rw [hf] at rx
                have t1 : ¬ ((n : Int) < (q : Int) + 1) := by omega
                clear hx hf hcq
                go_wp2_with fail
                go_roundw
                case rel => exact ⟨j + 1, by omega, by go_num, by first | rfl | trivial⟩
                case measure => simp [intOf]; omega
              · have hjn : ¬ (j : Int) < (n1 : Int) := by omega
                go_wp2_with fail
                go_ret
                exact ⟨rfl, UPW.out _ HB7.out⟩
      · have he2 : (eW != 0) = false := by simp [he]
        have h2b : (0 : Int) < (n2 : Int) := by omega
        clear he h2
        go_wp2_with fail
        go_ret
        exact ⟨rfl, UPW.out _ HB4.out⟩
    · have he2 : (eW != 0) = true := by simp [he]
      clear he
      go_wp2_with fail
      go_ret
      exact ⟨rfl, UPW.out _ HB4.out⟩
end Hu
end Go.Proofs.Ytcjlbecmghaalaa
