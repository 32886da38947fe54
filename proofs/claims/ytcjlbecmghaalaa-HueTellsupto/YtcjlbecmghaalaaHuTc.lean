/-
  Hue: the document's Strong
-/
import Derived.Test.YtcjlbecmghaalaaHuTb
import Derived.Test.YtcjlbecmghaalaaHuE
namespace Go.Proofs.Ytcjlbecmghaalaa
open Go.RowKit
set_option linter.unusedVariables false
set_option linter.unusedSimpArgs false
set_option linter.unnecessarySimpa false
set_option maxRecDepth 20000
namespace Hu
open Gr
theorem wh_of {os : List Ob} {ws : List Int} {u : Int} {p : Nat} (h : gd os u = p) : (p = 0 → wh os ws u = 0) ∧ ∀ q, p = q + 1 → (col os ws q = 1 → wh os ws u = q + 1) ∧ (col os ws q ≠ 1 → wh os ws u = 0) := by
  refine ⟨fun h0 => ?_, fun q hq => ⟨fun h1 => ?_, fun h1 => ?_⟩⟩
  · unfold wh; rw [if_neg (fun hh => hh.1 (by rw [h]; exact h0))]
  · unfold wh; rw [h, hq, if_pos ⟨by omega, by simpa using h1⟩]
  · unfold wh; rw [h, hq, if_neg (fun hh => h1 (by simpa using hh.2))]

set_option maxHeartbeats 8000000 in
theorem rstrong_ok {c : Vc} {a : Av} {w : World} {gl bs : List Int} {ba : Option Addr} {bc : Nat} (hy : Hy w c a gl ba bs) : Calls Try.prog 11 #[vl c a, .slice ba bs.length bc] w fun e w' => e = .returned (.tuple #[.int .i64 (fs (stp c.os (gl ++ bs)) c.os.length : Int), .int .i64 (er (fs (stp c.os (gl ++ bs)) c.os.length))]) ∧ Below w.heap.size w w' := by
  obtain ⟨W0, hW0, B0, R0⟩ := vbox w c a
  have VF := hide (fun (wx : World) (hb : Below W0.heap.size W0 wx) => vcells (row_on R0 hb))
  have HB0 := hide B0
  have HS0 := hide (hy.s.below B0)
  have l0 : w.heap.size < W0.heap.size := R0.lt
  have HBd := hide hy.b
  have hno := hy.b.no
  have HUE := hide (hues_ok (bc := bc) (hy.s.below B0) hy.b hy.ng (hy.g.below B0) (hy.l.below B0) hy.gl hy.bl)
  have SHW := hide (fun (wx : World) (hb : Below w.heap.size w wx) (u : Int) (hu : 0 ≤ u ∧ u < 18446744073709551616) => shown_ok (a := a) (hy.s.below hb) hy.b hu.1 hu.2)
  have UPW := hide (fun (wx : World) (hb : Below W0.heap.size W0 wx) => show Below w.heap.size w wx from HB0.out.trans (hb.mono HB0.out.size))
  clear hy B0 R0
  obtain ⟨ph, co, ro, aa, na, ca, ra, cr, wa, nw, cw, oa, cb, fa, nf, cf, ga, ng, cg, qa, cq, k0, k1, k2, k3⟩ := a
  simp only [vl] at HUE SHW ⊢
  simp only at hW0 VF HS0 HUE SHW
  unfold Nt at HUE
  simp only [hs_len] at HUE
  obtain ⟨n, hn⟩ : ∃ n, c.os.length = n := ⟨_, rfl⟩
  obtain ⟨nr, hnre⟩ : ∃ nr, c.rs.length = nr := ⟨_, rfl⟩
  obtain ⟨nqz, hnqe⟩ : ∃ nqz, c.qu.length = nqz := ⟨_, rfl⟩
  obtain ⟨nbs, hnbs⟩ : ∃ nbs, bs.length = nbs := ⟨_, rfl⟩
  obtain ⟨ws, hws⟩ : ∃ ws, gl ++ bs = ws := ⟨_, rfl⟩
  obtain ⟨os, hos⟩ : ∃ os, c.os = os := ⟨_, rfl⟩
  rw [hos] at HS0 HBd hn
  simp only [hos, hws] at HUE SHW ⊢
  simp only [hn, hos, hnre, hnqe, hnbs] at hW0 VF HUE SHW hno ⊢
  have Hn := hide hn
  clear hn hnre hnqe hos hnbs hws
  have HSG := hide (fun (i : Nat) (hi : i < n) => hs_get os ws hi)
  obtain ⟨x0, x1, x2, x3, x4, x5, x6, x7, x8, x9, x10, x11, x12, x13⟩ := VF.out W0 (Below.refl _ _)
  go_enter Try.func11, Try.ntmps11
  go_upto_region 2 with (go_at_call 42; refine HUE.out.mono ?_; rintro e w1 ⟨ha, hc, rfl, hown, hb⟩; have HH := hide (own_seesN hown); have HB1 := hide hb; clear hown hb)
  clear hW0 x0 x1 x2 x3 x4 x5 x6 x7 x8 x9 x10 x11 x12 x13
  go_wp2_with fail
  go_loopw [7] (fun i wr => ∃ (k : Nat), k ≤ n ∧ i = .int .i64 k ∧ Hid (∀ j, j < k → stp os ws j = false) ∧ Hid (Below w1.heap.size w1 wr)) (fun i _ => n - (intOf i).toNat)
  case atStart => exact ⟨0, Nat.zero_le _, rfl, (fun j hj => by omega : ∀ j, j < 0 → stp os ws j = false), Below.refl _ _⟩
  case round =>
    obtain ⟨k, hk, rfl, HP, HB⟩ := hrel
    have HBW := hide (show Below W0.heap.size W0 wr from HB1.out.trans (HB.out.mono HB1.out.size))
    by_cases hlt : k < n
    · have hkn : (k : Int) < (n : Int) := by omega
      obtain ⟨b1, off1, hha, hbl1, hcc1⟩ := HH.out.below HB.out k _ (HSG.out k hlt)
      subst hha
      obtain ⟨o, ho⟩ : ∃ o, os[k]? = some o := ⟨os[k]'(by rw [Hn.out]; exact hlt), by simp [Hn.out, hlt]⟩
      obtain ⟨bo, off, ai, ci, hoa, hbl2, hoc, hse⟩ := HS0.out.below HBW.out k o ho
      subst hoa
      have o8 : wr.cell? ⟨bo, off + k * 9 + 8, none⟩ = some (.slice ai o.sl.length ci) := hoc 8 (by decide)
      have Ho := hide ho
      have HSE := hide hse
      have HWd := hide (HBd.out.sl o (List.mem_of_getElem? ho))
      have hml := HBd.out.ns o (List.mem_of_getElem? ho)
      obtain ⟨sl, hsl⟩ : ∃ sl, o.sl = sl := ⟨_, rfl⟩
      rw [hsl] at o8 HSE HWd hml
      have Hsl := hide hsl
      obtain ⟨m, hm⟩ : ∃ m, sl.length = m := ⟨_, rfl⟩
      rw [hm] at o8 hml
      have Hm := hide hm
      have NXT := hide (show stp os ws k = false → ∀ j, j < k + 1 → stp os ws j = false from fun h j hj => by
        by_cases e : j = k
        · subst e; exact h
        · exact HP.out j (by omega))
      obtain ⟨cz, hcz⟩ : ∃ cz, col os ws k = cz := ⟨_, rfl⟩
      rw [hcz] at hcc1
      have Hcq := hide hcz
      clear hoc hse ho hm hcz hsl
      by_cases h3 : cz = 3
      · have h3b : (cz != 3) = false := by simp [h3]
        have H3 := hide (show col os ws k = 3 by rw [Hcq.out, h3])
        clear h3
        obtain ⟨wo, rfl⟩ : ∃ wo, wo = wr := ⟨_, rfl⟩
        go_wp2_with fail
        clear h3b hcc1
        go_loopw [8] (fun i wr => ∃ (j : Nat), j ≤ m ∧ i = .int .i64 j ∧ Hid (∀ x ∈ sl.take j, wh os ws x = 0) ∧ Hid (Below wo.heap.size wo wr)) (fun i _ => m - (intOf i).toNat)
        case atStart => exact ⟨0, Nat.zero_le _, rfl, (fun x hx => by simp at hx : ∀ x ∈ sl.take 0, wh os ws x = 0), Below.refl _ _⟩
        case round =>
          obtain ⟨j, hj, rfl, HQ, HBj⟩ := hrel
          have HB5 := hide (show Below W0.heap.size W0 wr from HBW.out.trans (HBj.out.mono HBW.out.size))
          have B15 := hide (show Below w1.heap.size w1 wr from HB.out.trans (HBj.out.mono HB.out.size))
          have p8 := (HBj.out.cell (p := ⟨bo, off + k * 9 + 8, none⟩) hbl2).trans o8
          have x6 := (VF.out wr HB5.out).2.2.2.2.2.2.1
          by_cases hlt2 : j < m
          · have hjn : (j : Int) < (m : Int) := by omega
            obtain ⟨u, hu⟩ : ∃ u, sl[j]? = some u := ⟨sl[j]'(by rw [Hm.out]; exact hlt2), by simp [Hm.out, hlt2]⟩
            obtain ⟨b2, off2, hai, hbl3, hcc2⟩ := HSE.out.below HBj.out j u hu
            subst hai
            have hum := List.mem_of_getElem? hu
            have D1 : Below wr.heap.size wr wr.drew := ⟨rfl, rfl, rfl, Nat.le_refl _, fun _ _ => rfl⟩
            have DW : Below W0.heap.size W0 wr.drew := ⟨HB5.out.os, HB5.out.tape, HB5.out.output, HB5.out.size, HB5.out.block⟩
            have WX := hide (SHW.out wr.drew (UPW.out _ DW) u (HWd.out u hum))
            have SF := hide (fun (wx : World) (hb : Below wr.heap.size wr wx) => show (wx.cell? ⟨w.heap.size, 0, none⟩ = some (.int .i64 ph) ∧ wx.cell? ⟨w.heap.size, 1, none⟩ = some (.int .i64 co) ∧ wx.cell? ⟨w.heap.size, 2, none⟩ = some (.int .u64 ro) ∧ wx.cell? ⟨w.heap.size, 3, none⟩ = some (.slice aa na ca) ∧ wx.cell? ⟨w.heap.size, 4, none⟩ = some (.slice ra nr cr) ∧ wx.cell? ⟨w.heap.size, 5, none⟩ = some (.slice wa nw cw) ∧ wx.cell? ⟨w.heap.size, 6, none⟩ = some (.slice (some ⟨bo, off, none⟩) n cb) ∧ wx.cell? ⟨w.heap.size, 7, none⟩ = some (.slice fa nf cf) ∧ wx.cell? ⟨w.heap.size, 8, none⟩ = some (.slice ga ng cg) ∧ wx.cell? ⟨w.heap.size, 9, none⟩ = some (.slice qa nqz cq) ∧ wx.cell? ⟨w.heap.size, 10, none⟩ = some (.int .u64 k0) ∧ wx.cell? ⟨w.heap.size, 11, none⟩ = some (.int .u64 k1) ∧ wx.cell? ⟨w.heap.size, 12, none⟩ = some (.int .u64 k2) ∧ wx.cell? ⟨w.heap.size, 13, none⟩ = some (.int .u64 k3) ∧ wx.cell? ⟨bo, off + k * 9 + 8, none⟩ = some (.slice (some ⟨b2, off2, none⟩) m ci) ∧ wx.cell? ⟨b2, off2 + j, none⟩ = some (.int .u64 u)) by
              obtain ⟨v0, v1, v2, v3, v4, v5, v6, v7, v8, v9, v10, v11, v12, v13⟩ := VF.out wx (HB5.out.trans (hb.mono HB5.out.size))
              exact ⟨v0, v1, v2, v3, v4, v5, v6, v7, v8, v9, v10, v11, v12, v13, (hb.cell (p := ⟨bo, off + k * 9 + 8, none⟩) (Nat.lt_of_lt_of_le hbl2 HBj.out.size)).trans p8, (hb.cell (p := ⟨b2, off2 + j, none⟩) hbl3).trans hcc2⟩)
            have K0 := SF.out wr.drew D1
            have YES := hide (fun (h0 : wh os ws u ≠ 0) => fs_at (n := n) hlt (stp_here Ho.out H3.out (by rw [Hsl.out]; exact hum) h0) HP.out)
            have NOT := hide (show wh os ws u = 0 → ∀ x ∈ sl.take (j + 1), wh os ws x = 0 from fun h0 x hx => by
              rw [List.take_add_one, hu] at hx
              rcases List.mem_append.1 hx with hx | hx
              · exact HQ.out x hx
              · simp at hx; subst hx; exact h0)
            obtain ⟨p, hp⟩ : ∃ p, gd os u = p := ⟨_, rfl⟩
            have WHO := hide (wh_of (ws := ws) hp)
            have hpn : p ≤ n := by rw [← hp, ← Hn.out]; exact gd_le _ _
            rw [hp] at WX
            clear hu hum hp
            go_upto_region 9 with (fail)
            clear p8 x6
            go_region_held (fun w' => w'.cell? ⟨w.heap.size, 0, none⟩ = some (.int .i64 ph) ∧ w'.cell? ⟨w.heap.size, 1, none⟩ = some (.int .i64 co) ∧ w'.cell? ⟨w.heap.size, 2, none⟩ = some (.int .u64 ro) ∧ w'.cell? ⟨w.heap.size, 3, none⟩ = some (.slice aa na ca) ∧ w'.cell? ⟨w.heap.size, 4, none⟩ = some (.slice ra nr cr) ∧ w'.cell? ⟨w.heap.size, 5, none⟩ = some (.slice wa nw cw) ∧ w'.cell? ⟨w.heap.size, 6, none⟩ = some (.slice (some ⟨bo, off, none⟩) n cb) ∧ w'.cell? ⟨w.heap.size, 7, none⟩ = some (.slice fa nf cf) ∧ w'.cell? ⟨w.heap.size, 8, none⟩ = some (.slice ga ng cg) ∧ w'.cell? ⟨w.heap.size, 9, none⟩ = some (.slice qa nqz cq) ∧ w'.cell? ⟨w.heap.size, 10, none⟩ = some (.int .u64 k0) ∧ w'.cell? ⟨w.heap.size, 11, none⟩ = some (.int .u64 k1) ∧ w'.cell? ⟨w.heap.size, 12, none⟩ = some (.int .u64 k2) ∧ w'.cell? ⟨w.heap.size, 13, none⟩ = some (.int .u64 k3) ∧ w'.cell? ⟨bo, off + k * 9 + 8, none⟩ = some (.slice (some ⟨b2, off2, none⟩) m ci) ∧ w'.cell? ⟨b2, off2 + j, none⟩ = some (.int .u64 u)) (first | exact K0 | exact K1) ((go_at_call 43; refine WX.out.mono ?_; rintro e w6 ⟨rfl, hb⟩; have HB6 := hide (D1.trans (hb.mono D1.size)); have K1 := SF.out w6 HB6.out; clear hb))
            clear K0 K1
            by_cases hp0 : p = 0
            · subst hp0
              have NN := hide (NOT.out (WHO.out.1 rfl))
              clear NOT YES WHO
              go_wp2_with fail
              go_roundw
              case rel => exact ⟨j + 1, by omega, by go_num, NN.out, HBj.out.trans (HB6.out.mono HBj.out.size)⟩
              case measure => simp [intOf]; omega
            · obtain ⟨q, rfl⟩ : ∃ q, p = q + 1 := ⟨p - 1, by omega⟩
              have hq : q < n := by omega
              have hq2 : (q : Int) < (n : Int) := by omega
              have WHQ := hide (WHO.out.2 q rfl)
              obtain ⟨b3, off3, hha3, hbl4, hcc3⟩ := HH.out.below (B15.out.trans (HB6.out.mono B15.out.size)) q _ (HSG.out q hq)
              cases hha3
              obtain ⟨cr2, hcr2⟩ : ∃ cr2, col os ws q = cr2 := ⟨_, rfl⟩
              rw [hcr2] at hcc3 WHQ
              have q0 : (0 : Int) < (q : Int) + 1 := by omega
              clear hcr2 WHO hp0
              by_cases h1 : cr2 = 1
              · have h1b : (cr2 == 1) = true := by simp [h1]
                have YY := hide (YES.out (by rw [WHQ.out.1 h1]; omega))
                clear h1 NOT YES WHQ
                go_wp2_with fail
                refine bodyPost_ret (v := .tuple #[.int .i64 ((k : Int) + 1), .int .i64 150]) (by simp [results, Try.results11, go_sem, *]) rfl ?_
                rw [YY.out]
                exact ⟨by rw [er1 (by omega)]; simp, UPW.out _ (HB5.out.trans (HB6.out.mono HB5.out.size))⟩
              · have h1b : (cr2 == 1) = false := by simp [h1]
                have NN := hide (NOT.out (WHQ.out.2 h1))
                clear h1 NOT YES WHQ
                go_wp2_with fail
                go_roundw
                case rel => exact ⟨j + 1, by omega, by go_num, NN.out, HBj.out.trans (HB6.out.mono HBj.out.size)⟩
                case measure => simp [intOf]; omega
          · have hjn : ¬ (j : Int) < (m : Int) := by omega
            have e0 : sl.take j = sl := List.take_of_length_le (by rw [Hm.out]; omega)
            rw [e0] at HQ
            have NN := hide (NXT.out (stp_take Ho.out (by rw [Hsl.out]; exact HQ.out)))
            go_wp2_with fail
            go_roundw
            case rel => exact ⟨k + 1, by omega, by go_num, NN.out, B15.out⟩
            case measure => simp [intOf]; omega
      · have h3b : (cz != 3) = true := by simp [h3]
        have NN := hide (NXT.out (stp_not (by rw [Hcq.out]; exact h3)))
        clear h3
        go_wp2_with fail
        go_roundw
        case rel => exact ⟨k + 1, by omega, by go_num, NN.out, HB.out⟩
        case measure => simp [intOf]; omega
    · have hkn : ¬ (k : Int) < (n : Int) := by omega
      obtain rfl : k = n := by omega
      have FX := hide (fs_none HP.out)
      go_wp2_with fail
      refine bodyPost_ret (v := .tuple #[.int .i64 0, .int .i64 0]) (by simp [results, Try.results11, go_sem, *]) rfl ?_
      rw [FX.out]
      exact ⟨by rw [er0 rfl]; rfl, UPW.out _ HBW.out⟩
end Hu
end Go.Proofs.Ytcjlbecmghaalaa
