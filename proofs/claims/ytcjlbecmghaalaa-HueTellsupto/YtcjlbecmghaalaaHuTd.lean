/-
  Hue: the document's Weak
-/
import Derived.Test.YtcjlbecmghaalaaHuTc
import Derived.Test.YtcjlbecmghaalaaHuTn
namespace Go.Proofs.Ytcjlbecmghaalaa
open Go.RowKit
set_option linter.unusedVariables false
set_option linter.unusedSimpArgs false
set_option linter.unnecessarySimpa false
set_option maxRecDepth 20000
namespace Hu
open Gr
theorem cf_congr {S S' : Nat → Bool} : ∀ {n : Nat}, (∀ i, i < n → S i = S' i) → cf S n = cf S' n
  | 0, _ => rfl
  | n + 1, h => by simp only [cf]; rw [cf_congr (fun i hi => h i (by omega)), h n (by omega)]
noncomputable def ms (g n : Nat) (v : Value) (w : World) : Nat := cf (fun i => @decide (w.cell? ⟨g, i, none⟩ = some (.bool true)) (Classical.propDecidable _)) n + @ite Nat (v = .bool true) (Classical.propDecidable _) 1 0
theorem ms_row {g n : Nat} {w : World} {S : Nat → Bool} (h : w.rowIs g 4 n (fun i => .bool (S i))) (b : Bool) : ms g n (.bool b) w = cf S n + (if b then 1 else 0) := by
  unfold ms
  congr 1
  · refine cf_congr (fun i hi => ?_)
    rw [h.cell hi]
    cases S i <;> simp
  · cases b <;> simp
theorem ms_less {os : List Ob} {ws : List Int} {g : Nat} {w w' : World} {S0 S T : Nat → Bool} {pr : Nat → Int → Prop} {gv : Bool} (h : w.rowIs g 4 os.length (fun i => .bool (S0 i))) (h' : w'.rowIs g 4 os.length (fun i => .bool (S i))) (W : Wi os ws S0 S T pr gv) : ms g os.length (.bool gv) w' < ms g os.length (.bool true) w := by
  rw [ms_row h, ms_row h']
  cases gv with
  | false =>
    have := cf_le W.mono os.length
    simp; omega
  | true =>
    obtain ⟨j, h1, h2, h3⟩ := W.grw rfl
    have := cf_lt W.mono h3 h2 os.length h1
    simp; omega

set_option maxHeartbeats 16000000 in
theorem rweak_ok {c : Vc} {a : Av} {w : World} {gl bs : List Int} {ba : Option Addr} {bc : Nat} (hy : Hy w c a gl ba bs) : Calls Try.prog 12 #[vl c a, .slice ba bs.length bc] w fun e w' => e = .returned (.tuple #[.int .i64 (fs (wkp c.os (gl ++ bs)) c.os.length : Int), .int .i64 (er (fs (wkp c.os (gl ++ bs)) c.os.length))]) ∧ Below w.heap.size w w' := by
  obtain ⟨W0, hW0, B0, R0⟩ := vbox w c a
  have VF := hide (fun (wx : World) (hb : Below W0.heap.size W0 wx) => vcells (row_on R0 hb))
  have HB0 := hide B0
  have HS0 := hide (hy.s.below B0)
  have l0 : w.heap.size < W0.heap.size := R0.lt
  have HBd := hide hy.b
  have hno := hy.b.no
  have HUE := hide (hues_ok (bc := bc) (hy.s.below B0) hy.b hy.ng (hy.g.below B0) (hy.l.below B0) hy.gl hy.bl)
  have SHW := hide (fun (wx : World) (hb : Below w.heap.size w wx) (u : Int) (hu : 0 ≤ u ∧ u < 18446744073709551616) => shown_ok (a := a) (hy.s.below hb) hy.b hu.1 hu.2)
  have UPW := hide (fun (wx : World) (hb : Below W0.heap.size W0 wx) => show Below w.heap.size w wx from HB0.out.trans (hb.mono HB0.out.size))
  clear hy B0 R0
  obtain ⟨ph, co, ro, aa, na, ca, ra, cr, wa, nw, cw, oa, cb, fa, nf, cf, ga, ng, cg, qa, cq, k0, k1, k2, k3⟩ := a
  simp only [vl] at HUE SHW ⊢
  simp only at hW0 VF HS0 HUE SHW
  unfold Nt at HUE
  simp only [hs_len] at HUE
  obtain ⟨n, hn⟩ : ∃ n, c.os.length = n := ⟨_, rfl⟩
  obtain ⟨nr, hnre⟩ : ∃ nr, c.rs.length = nr := ⟨_, rfl⟩
  obtain ⟨nqz, hnqe⟩ : ∃ nqz, c.qu.length = nqz := ⟨_, rfl⟩
  obtain ⟨nbs, hnbs⟩ : ∃ nbs, bs.length = nbs := ⟨_, rfl⟩
  obtain ⟨ws, hws⟩ : ∃ ws, gl ++ bs = ws := ⟨_, rfl⟩
  obtain ⟨os, hos⟩ : ∃ os, c.os = os := ⟨_, rfl⟩
  rw [hos] at HS0 HBd hn
  simp only [hos, hws] at HUE SHW ⊢
  simp only [hn, hos, hnre, hnqe, hnbs] at hW0 VF HUE SHW hno ⊢
  have Hn := hide hn
  clear hn hnre hnqe hos hnbs hws
  have HSG := hide (fun (i : Nat) (hi : i < n) => hs_get os ws hi)
  have hmk := run_make_row' (P := Try.prog) 42 4 _ 1 Try.underlying42 infoBb rfl .i64 .i64 n (by omega) (by omega)
  have MSL := hide (fun (g : Nat) (w w' : World) (S0 S T : Nat → Bool) (pr : Nat → Int → Prop) (gv : Bool) (h : w.rowIs g 4 os.length (fun i => .bool (S0 i))) (h' : w'.rowIs g 4 os.length (fun i => .bool (S i))) (W : Wi os ws S0 S T pr gv) => ms_less h h' W)
  have DON := hide (fun (S0 S T : Nat → Bool) (gv : Bool) (h : Wi os ws S0 S T (prk os os.length 0) gv) => h.done)
  simp only [Hn.out] at MSL DON
  obtain ⟨x0, x1, x2, x3, x4, x5, x6, x7, x8, x9, x10, x11, x12, x13⟩ := VF.out W0 (Below.refl _ _)
  go_enter Try.func12, Try.ntmps12
  go_upto_region 2 with (go_at_call 42; refine HUE.out.mono ?_; rintro e w1 ⟨ha, hc, rfl, hown, hb⟩; have HH := hide (own_seesN hown); have HB1 := hide hb; clear hown hb)
  clear hW0 x0 x1 x2 x3 x4 x5 x6 x7 x8 x9 x10 x11 x12 x13
  obtain ⟨g1, hg1⟩ : ∃ g, w1.heap.size = g := ⟨_, rfl⟩
  obtain ⟨W2, hW2⟩ : ∃ W2, w1.alloc (.cells (madeCells #[.bool false] n) 4) = W2 := ⟨_, rfl⟩
  obtain ⟨W3, hW3⟩ : ∃ W3, W2.alloc (.cells (madeCells #[.bool false] n) 4) = W3 := ⟨_, rfl⟩
  have s2 : W2.heap.size = g1 + 1 := by rw [← hW2, ← hg1]; simp
  obtain ⟨g2, hg2⟩ : ∃ g, W2.heap.size = g := ⟨_, rfl⟩
  have hg12 : g1 < g2 := by omega
  have R12 := show W2.rowIs g1 4 n (fun _ => .bool false) by rw [← hW2, ← hg1]; exact rows_made _ _ _ _
  have R1 := hide (show W3.rowIs g1 4 n (fun i => .bool ((fun _ => false) i)) by rw [← hW3]; exact R12.alloc _)
  have R2 := hide (show W3.rowIs g2 4 n (fun i => .bool ((fun _ => false) i)) by rw [← hW3, ← hg2]; exact rows_made _ _ _ _)
  have B3 := hide (show Below g1 w1 W3 by rw [← hW3, ← hW2]; exact ((Below.refl _ w1).alloc (by omega) _).alloc (by simp; omega) _)
  have hgl1 : W0.heap.size ≤ g1 := by rw [← hg1]; exact HB1.out.size
  have UP1 := hide (fun (wx : World) (hb : Below g1 w1 wx) => show Below W0.heap.size W0 wx from HB1.out.trans (hb.mono hgl1))
  have HHL := hide (fun (k : Nat) (hk : k < n) (b1 off1 : Nat) (h : ha = some ⟨b1, off1, none⟩) => show b1 < g1 by
    obtain ⟨b, off, e, hl, _⟩ := HH.out k _ (HSG.out k hk)
    rw [h] at e; cases e; rw [← hg1]; exact hl)
  have HHX := hide (fun (wx : World) (hb : Below g1 w1 wx) => HH.out.below (w' := wx) (by rw [hg1]; exact hb))
  clear R12 s2
  go_wp2_with fail
  clear hmk hW2 hW3 hg1 hg2
  go_loopw [9] (fun v wr => ∃ (gv : Bool) (S T : Nat → Bool), v = .bool gv ∧ Hid (Wo os ws S T gv) ∧ Hid (wr.rowIs g1 4 n (fun i => .bool (S i))) ∧ Hid (wr.rowIs g2 4 n (fun i => .bool (T i))) ∧ Hid (Below g1 w1 wr)) (fun v wr => ms g1 n v wr)
  case atStart => exact ⟨true, fun _ => false, fun _ => false, rfl, wo_start os ws, R1.out, R2.out, B3.out⟩
  case round =>
    clear R1 R2 B3
    obtain ⟨gv0, S0, T0, rfl, HO, HR10, HR20, HB⟩ := hrel
    cases gv0
    · have IFF := hide HO.out.iff
      obtain ⟨wo, rfl⟩ : ∃ wo, wo = wr := ⟨_, rfl⟩
      go_wp2_with fail
      go_loopw [13] (fun i wr => ∃ (k : Nat), k ≤ n ∧ i = .int .i64 k ∧ Hid (∀ j, j < k → wkp os ws j = false) ∧ wr = wo) (fun i _ => n - (intOf i).toNat)
      case atStart => exact ⟨0, Nat.zero_le _, rfl, (fun j hj => by omega : ∀ j, j < 0 → wkp os ws j = false), rfl⟩
      case round =>
        obtain ⟨k, hk, rfl, HP, rfl⟩ := hrel
        by_cases hlt : k < n
        · have hkn : (k : Int) < (n : Int) := by omega
          have c1 := HR10.out.cell hlt
          have c2 := HR20.out.cell hlt
          obtain ⟨i1, i2⟩ := IFF.out k
          have WV := hide (show wkp os ws k = (T0 k && !S0 k) by rw [i1, i2]; rfl)
          obtain ⟨sv, hsv⟩ : ∃ sv, S0 k = sv := ⟨_, rfl⟩
          obtain ⟨tv, htv⟩ : ∃ tv, T0 k = tv := ⟨_, rfl⟩
          rw [hsv] at c1 WV
          rw [htv] at c2 WV
          have NXT := hide (show wkp os ws k = false → ∀ j, j < k + 1 → wkp os ws j = false from fun h j hj => by
            by_cases e : j = k
            · subst e; exact h
            · exact HP.out j (by omega))
          clear i1 i2 hsv htv
          cases tv
          · have NN := hide (NXT.out (by rw [WV.out]; rfl))
            go_wp2_with fail
            go_roundw
            case rel => exact ⟨k + 1, by omega, by go_num, NN.out, by first | rfl | trivial⟩
            case measure => simp [intOf]; omega
          · cases sv
            · have FX := hide (fs_at (n := n) hlt (show wkp os ws k = true by rw [WV.out]; rfl) HP.out)
              go_wp2_with fail
              refine bodyPost_ret (v := .tuple #[.int .i64 ((k : Int) + 1), .int .i64 150]) (by simp [results, Try.results12, go_sem, *]) rfl ?_
              rw [FX.out]
              exact ⟨by rw [er1 (by omega)]; simp, UPW.out _ (UP1.out _ HB.out)⟩
            · have NN := hide (NXT.out (by rw [WV.out]; rfl))
              go_wp2_with fail
              go_roundw
              case rel => exact ⟨k + 1, by omega, by go_num, NN.out, by first | rfl | trivial⟩
              case measure => simp [intOf]; omega
        · have hkn : ¬ (k : Int) < (n : Int) := by omega
          obtain rfl : k = n := by omega
          have FX := hide (fs_none HP.out)
          go_wp2_with fail
          refine bodyPost_ret (v := .tuple #[.int .i64 0, .int .i64 0]) (by simp [results, Try.results12, go_sem, *]) rfl ?_
          rw [FX.out]
          exact ⟨by rw [er0 rfl]; rfl, UPW.out _ (UP1.out _ HB.out)⟩
    · obtain ⟨wo, rfl⟩ : ∃ wo, wo = wr := ⟨_, rfl⟩
      go_wp2_with fail
      go_loopw [9, 10] (fun v i wr => ∃ (k : Nat) (gv : Bool) (S T : Nat → Bool), k ≤ n ∧ v = .bool gv ∧ i = .int .i64 k ∧ Hid (Wi os ws S0 S T (prk os k 0) gv) ∧ Hid (wr.rowIs g1 4 n (fun i => .bool (S i))) ∧ Hid (wr.rowIs g2 4 n (fun i => .bool (T i))) ∧ Hid (Below g1 w1 wr)) (fun _ i _ => n - (intOf i).toNat)
      case atStart => exact ⟨0, false, S0, T0, Nat.zero_le _, rfl, rfl, HO.out.begin, HR10.out, HR20.out, HB.out⟩
      case round =>
        obtain ⟨k, gv, S, T, hk, rfl, rfl, HW, HR1, HR2, HB2⟩ := hrel
        have HBW := hide (UP1.out wr HB2.out)
        by_cases hlt : k < n
        · have hkn : (k : Int) < (n : Int) := by omega
          obtain ⟨b1, off1, hha, hbl1, hcc1⟩ := HHX.out wr HB2.out k _ (HSG.out k hlt)
          have HBL := hide (HHL.out k hlt b1 off1 hha)
          subst hha
          obtain ⟨o, ho⟩ : ∃ o, os[k]? = some o := ⟨os[k]'(by rw [Hn.out]; exact hlt), by simp [Hn.out, hlt]⟩
          obtain ⟨bo, off, ai, ci, hoa, hbl2, hoc, hse⟩ := HS0.out k o ho
          subst hoa
          have o8 : W0.cell? ⟨bo, off + k * 9 + 8, none⟩ = some (.slice ai o.sl.length ci) := hoc 8 (by decide)
          have HSE := hide hse
          have HWd := hide (HBd.out.sl o (List.mem_of_getElem? ho))
          have hml := HBd.out.ns o (List.mem_of_getElem? ho)
          obtain ⟨sl, hsl⟩ : ∃ sl, o.sl = sl := ⟨_, rfl⟩
          rw [hsl] at o8 HSE HWd hml
          have Hsls := hide (show sls os k = sl by rw [sls_at ho]; exact hsl)
          obtain ⟨m, hm⟩ : ∃ m, sl.length = m := ⟨_, rfl⟩
          rw [hm] at o8 hml
          have Hm := hide hm
          obtain ⟨cz, hcz⟩ : ∃ cz, col os ws k = cz := ⟨_, rfl⟩
          rw [hcz] at hcc1
          have Hcz := hide hcz
          clear hoc hse ho hm hcz hsl
          by_cases h0 : cz = 0
          · have h0b : (cz == 0) = true := by simp [h0]
            have NW := hide (HW.out.pass (by rw [Hcz.out, h0]))
            clear h0
            go_wp2_with fail
            go_roundw
            case rel => exact ⟨k + 1, gv, S, T, by omega, rfl, by go_num, NW.out, HR1.out, HR2.out, HB2.out⟩
            case measure => simp [intOf]; omega
          · have h0b : (cz == 0) = false := by simp [h0]
            clear h0
            obtain ⟨wp, rfl⟩ : ∃ wp, wp = wr := ⟨_, rfl⟩
            go_wp2_with fail
            clear h0b hcc1
            go_loopw [9, 11] (fun v i wr => ∃ (j : Nat) (gv : Bool) (S T : Nat → Bool), j ≤ m ∧ v = .bool gv ∧ i = .int .i64 j ∧ Hid (Wi os ws S0 S T (prk os k j) gv) ∧ Hid (wr.rowIs g1 4 n (fun i => .bool (S i))) ∧ Hid (wr.rowIs g2 4 n (fun i => .bool (T i))) ∧ Hid (Below g1 w1 wr)) (fun _ i _ => m - (intOf i).toNat)
            case atStart => exact ⟨0, gv, S, T, Nat.zero_le _, rfl, rfl, HW.out, HR1.out, HR2.out, HB2.out⟩
            case round =>
              clear HW HR1 HR2 HB2 HBW
              obtain ⟨j, gv, S, T, hj, rfl, rfl, HW, HR1, HR2, HB2⟩ := hrel
              have HBW := hide (UP1.out wr HB2.out)
              have p8 := (HBW.out.cell (p := ⟨bo, off + k * 9 + 8, none⟩) hbl2).trans o8
              have x6 := (VF.out wr HBW.out).2.2.2.2.2.2.1
              by_cases hlt2 : j < m
              · have hjn : (j : Int) < (m : Int) := by omega
                obtain ⟨u, hu⟩ : ∃ u, sl[j]? = some u := ⟨sl[j]'(by rw [Hm.out]; exact hlt2), by simp [Hm.out, hlt2]⟩
                obtain ⟨b2, off2, hai, hbl3, hcc2⟩ := HSE.out.below HBW.out j u hu
                subst hai
                have hum := List.mem_of_getElem? hu
                have D1 : Below wr.heap.size wr wr.drew := ⟨rfl, rfl, rfl, Nat.le_refl _, fun _ _ => rfl⟩
                have DW : Below W0.heap.size W0 wr.drew := ⟨HBW.out.os, HBW.out.tape, HBW.out.output, HBW.out.size, HBW.out.block⟩
                have WX := hide (SHW.out wr.drew (UPW.out _ DW) u (HWd.out u hum))
                have hbo2 : bo < wr.heap.size := Nat.lt_of_lt_of_le hbl2 HBW.out.size
                have SF := hide (fun (wx : World) (hb : Below wr.heap.size wr wx) => show (wx.cell? ⟨w.heap.size, 0, none⟩ = some (.int .i64 ph) ∧ wx.cell? ⟨w.heap.size, 1, none⟩ = some (.int .i64 co) ∧ wx.cell? ⟨w.heap.size, 2, none⟩ = some (.int .u64 ro) ∧ wx.cell? ⟨w.heap.size, 3, none⟩ = some (.slice aa na ca) ∧ wx.cell? ⟨w.heap.size, 4, none⟩ = some (.slice ra nr cr) ∧ wx.cell? ⟨w.heap.size, 5, none⟩ = some (.slice wa nw cw) ∧ wx.cell? ⟨w.heap.size, 6, none⟩ = some (.slice (some ⟨bo, off, none⟩) n cb) ∧ wx.cell? ⟨w.heap.size, 7, none⟩ = some (.slice fa nf cf) ∧ wx.cell? ⟨w.heap.size, 8, none⟩ = some (.slice ga ng cg) ∧ wx.cell? ⟨w.heap.size, 9, none⟩ = some (.slice qa nqz cq) ∧ wx.cell? ⟨w.heap.size, 10, none⟩ = some (.int .u64 k0) ∧ wx.cell? ⟨w.heap.size, 11, none⟩ = some (.int .u64 k1) ∧ wx.cell? ⟨w.heap.size, 12, none⟩ = some (.int .u64 k2) ∧ wx.cell? ⟨w.heap.size, 13, none⟩ = some (.int .u64 k3) ∧ wx.cell? ⟨bo, off + k * 9 + 8, none⟩ = some (.slice (some ⟨b2, off2, none⟩) m ci) ∧ wx.cell? ⟨b2, off2 + j, none⟩ = some (.int .u64 u)) by
                  obtain ⟨v0, v1, v2, v3, v4, v5, v6, v7, v8, v9, v10, v11, v12, v13⟩ := VF.out wx (HBW.out.trans (hb.mono HBW.out.size))
                  exact ⟨v0, v1, v2, v3, v4, v5, v6, v7, v8, v9, v10, v11, v12, v13, (hb.cell (p := ⟨bo, off + k * 9 + 8, none⟩) hbo2).trans p8, (hb.cell (p := ⟨b2, off2 + j, none⟩) hbl3).trans hcc2⟩)
                have K0 := SF.out wr.drew D1
                have HXJ := hide (show (sls os k)[j]? = some u by rw [Hsls.out]; exact hu)
                have HXS := hide (show u ∈ sls os k from List.mem_of_getElem? HXJ.out)
                obtain ⟨p, hp⟩ : ∃ p, gd os u = p := ⟨_, rfl⟩
                have WHO := hide (wh_of (ws := ws) hp)
                have hpn : p ≤ n := by rw [← hp, ← Hn.out]; exact gd_le _ _
                rw [hp] at WX
                clear hu hum hp
                go_upto_region 14 with (fail)
                clear p8 x6
                go_region_held (fun w' => w'.cell? ⟨w.heap.size, 0, none⟩ = some (.int .i64 ph) ∧ w'.cell? ⟨w.heap.size, 1, none⟩ = some (.int .i64 co) ∧ w'.cell? ⟨w.heap.size, 2, none⟩ = some (.int .u64 ro) ∧ w'.cell? ⟨w.heap.size, 3, none⟩ = some (.slice aa na ca) ∧ w'.cell? ⟨w.heap.size, 4, none⟩ = some (.slice ra nr cr) ∧ w'.cell? ⟨w.heap.size, 5, none⟩ = some (.slice wa nw cw) ∧ w'.cell? ⟨w.heap.size, 6, none⟩ = some (.slice (some ⟨bo, off, none⟩) n cb) ∧ w'.cell? ⟨w.heap.size, 7, none⟩ = some (.slice fa nf cf) ∧ w'.cell? ⟨w.heap.size, 8, none⟩ = some (.slice ga ng cg) ∧ w'.cell? ⟨w.heap.size, 9, none⟩ = some (.slice qa nqz cq) ∧ w'.cell? ⟨w.heap.size, 10, none⟩ = some (.int .u64 k0) ∧ w'.cell? ⟨w.heap.size, 11, none⟩ = some (.int .u64 k1) ∧ w'.cell? ⟨w.heap.size, 12, none⟩ = some (.int .u64 k2) ∧ w'.cell? ⟨w.heap.size, 13, none⟩ = some (.int .u64 k3) ∧ w'.cell? ⟨bo, off + k * 9 + 8, none⟩ = some (.slice (some ⟨b2, off2, none⟩) m ci) ∧ w'.cell? ⟨b2, off2 + j, none⟩ = some (.int .u64 u)) (first | exact K0 | exact K1) ((go_at_call 43; refine WX.out.mono ?_; rintro e w6 ⟨rfl, hb⟩; have HB6 := hide (D1.trans (hb.mono D1.size)); have K1 := SF.out w6 HB6.out; clear hb))
                clear K0 K1
                have hg1w : g1 ≤ wr.heap.size := Nat.le_of_lt HR1.out.lt
                have B6 := hide (show Below g1 w1 w6 from HB2.out.trans (HB6.out.mono hg1w))
                have R16 := hide (row_on HR1.out HB6.out)
                have R26 := hide (row_on HR2.out HB6.out)
                clear HR1 HR2 HB2 HBW HB6 WX SF D1 DW
                by_cases hp0 : p = 0
                · subst hp0
                  have NW := hide (HW.out.skip (WHO.out.1 rfl) (prk_next HXJ.out))
                  clear WHO
                  go_wp2_with fail
                  go_roundw
                  case rel => exact ⟨j + 1, gv, S, T, by omega, rfl, by go_num, NW.out, R16.out, R26.out, B6.out⟩
                  case measure => simp [intOf]; omega
                · obtain ⟨q, rfl⟩ : ∃ q, p = q + 1 := ⟨p - 1, by omega⟩
                  have hq : q < n := by omega
                  have hq2 : (q : Int) < (n : Int) := by omega
                  have WHQ := hide (WHO.out.2 q rfl)
                  obtain ⟨b3, off3, hha3, hbl4, hcc3⟩ := HHX.out w6 B6.out q _ (HSG.out q hq)
                  cases hha3
                  obtain ⟨b4, off4, hha4, hbl5, hcc4⟩ := HHX.out w6 B6.out k _ (HSG.out k hlt)
                  cases hha4
                  rw [Hcz.out] at hcc4
                  obtain ⟨cr2, hcr2⟩ : ∃ cr2, col os ws q = cr2 := ⟨_, rfl⟩
                  rw [hcr2] at hcc3 WHQ
                  have q0 : ¬ (q : Int) + 1 = 0 := by omega
                  have q0b : ((q : Int) + 1 == 0) = false := by simp; omega
                  clear hcr2 WHO hp0
                  by_cases h1 : cr2 = 1
                  · have h1b : (cr2 != 1) = false := by simp [h1]
                    have HWQ := hide (WHQ.out.1 h1)
                    clear h1 WHQ
                    have sk := R16.out.cell hlt
                    have sq := R16.out.cell hq
                    have tq := R26.out.cell hq
                    have ft := R26.out.frozen q
                    obtain ⟨bk, hbk⟩ : ∃ b, S k = b := ⟨_, rfl⟩
                    obtain ⟨bq, hbq⟩ : ∃ b, S q = b := ⟨_, rfl⟩
                    rw [hbk] at sk
                    rw [hbq] at sq
                    have HSK := hide hbk
                    have HSQ := hide hbq
                    clear hbk hbq
                    by_cases h3 : cz = 3
                    · have h3b : (cz == 3) = true := by simp [h3]
                      have HC3 := hide (show col os ws k = 3 by rw [Hcz.out, h3])
                      have h32 : (cz == 2) = false := by simp [h3]
                      clear h3
                      have hbg : b1 < g1 := by have := HBL.out; omega
                      go_upto_region 18 with (fail)
                      obtain ⟨W7, hW7⟩ : ∃ W7, w6.setCell ⟨g2, q, none⟩ (.bool true) = W7 := ⟨_, rfl⟩
                      have R17 := hide (show W7.rowIs g1 4 n (fun i => .bool (S i)) by rw [← hW7]; exact R16.out.setOther (by simp only; omega) _)
                      have R27 := hide (show W7.rowIs g2 4 n (fun i => .bool (st T q i)) by rw [← hW7]; exact (R26.out.set q _).congr (fun i hi => by by_cases e : i = q <;> simp [st, e]))
                      have B7 := hide (show Below g1 w1 W7 by rw [← hW7]; exact B6.out.setCell (by simp only; omega) _)
                      have hcc7 : W7.cell? ⟨b1, off1 + k, none⟩ = some (.int .i64 cz) := by rw [← hW7, World.cell?_setCell_other _ _ _ _ (by simp <;> omega)]; exact hcc4
                      have sk7 := R17.out.cell hlt
                      have sq7 := R17.out.cell hq
                      rw [HSK.out] at sk7
                      rw [HSQ.out] at sq7
                      (try simp only [hW7])
                      clear hW7 sk sq tq ft hcc4 hcc3
                      cases bk
                      · have NW := hide (show Wi os ws S0 S (st T q) (prk os k (j + 1)) gv from HW.out.step HXS.out HWQ.out (prk_next HXJ.out) (.inl ⟨HC3.out, rfl⟩) (.inr ⟨.inl ⟨by rw [HC3.out]; omega, HSK.out⟩, rfl, rfl⟩))
                        go_wp2_with fail
                        go_roundw
                        case rel => exact ⟨j + 1, gv, S, (st T q), by omega, rfl, by go_num, NW.out, R17.out, R27.out, B7.out⟩
                        case measure => simp [intOf]; omega
                      · cases bq
                        · have NW := hide (show Wi os ws S0 (st S q) (st T q) (prk os k (j + 1)) true from HW.out.step HXS.out HWQ.out (prk_next HXJ.out) (.inl ⟨HC3.out, rfl⟩) (.inl ⟨.inr HSK.out, HSQ.out, rfl, rfl⟩))
                          have fS := R17.out.frozen q
                          go_wp2_with fail
                          go_roundw
                          case rel => exact ⟨j + 1, true, (st S q), (st T q), by omega, rfl, by go_num, NW.out, (R17.out.set q _).congr (fun i hi => by by_cases e : i = q <;> simp [st, e]), R27.out.setOther (by simp only; omega) _, B7.out.setCell (by simp only; omega) _⟩
                          case measure => simp [intOf]; omega
                        · have NW := hide (show Wi os ws S0 S (st T q) (prk os k (j + 1)) gv from HW.out.step HXS.out HWQ.out (prk_next HXJ.out) (.inl ⟨HC3.out, rfl⟩) (.inr ⟨.inr HSQ.out, rfl, rfl⟩))
                          go_wp2_with fail
                          go_roundw
                          case rel => exact ⟨j + 1, gv, S, (st T q), by omega, rfl, by go_num, NW.out, R17.out, R27.out, B7.out⟩
                          case measure => simp [intOf]; omega
                    · have h3b : (cz == 3) = false := by simp [h3]
                      have HC3 := hide (show col os ws k ≠ 3 by rw [Hcz.out]; exact h3)
                      clear h3
                      by_cases h2 : cz = 2
                      · have h2b : (cz == 2) = true := by simp [h2]
                        have HC2 := hide (show col os ws k = 2 by rw [Hcz.out, h2])
                        clear h2
                        cases bq
                        · have NW := hide (show Wi os ws S0 (st S q) T (prk os k (j + 1)) true from HW.out.step HXS.out HWQ.out (prk_next HXJ.out) (.inr ⟨HC3.out, rfl⟩) (.inl ⟨.inl HC2.out, HSQ.out, rfl, rfl⟩))
                          have fS := R16.out.frozen q
                          go_wp2_with fail
                          go_roundw
                          case rel => exact ⟨j + 1, true, (st S q), T, by omega, rfl, by go_num, NW.out, (R16.out.set q _).congr (fun i hi => by by_cases e : i = q <;> simp [st, e]), R26.out.setOther (by simp only; omega) _, B6.out.setCell (by simp only; omega) _⟩
                          case measure => simp [intOf]; omega
                        · have NW := hide (show Wi os ws S0 S T (prk os k (j + 1)) gv from HW.out.step HXS.out HWQ.out (prk_next HXJ.out) (.inr ⟨HC3.out, rfl⟩) (.inr ⟨.inr HSQ.out, rfl, rfl⟩))
                          go_wp2_with fail
                          go_roundw
                          case rel => exact ⟨j + 1, gv, S, T, by omega, rfl, by go_num, NW.out, R16.out, R26.out, B6.out⟩
                          case measure => simp [intOf]; omega
                      · have h2b : (cz == 2) = false := by simp [h2]
                        have HC2 := hide (show col os ws k ≠ 2 by rw [Hcz.out]; exact h2)
                        clear h2
                        cases bk
                        · have NW := hide (show Wi os ws S0 S T (prk os k (j + 1)) gv from HW.out.step HXS.out HWQ.out (prk_next HXJ.out) (.inr ⟨HC3.out, rfl⟩) (.inr ⟨.inl ⟨HC2.out, HSK.out⟩, rfl, rfl⟩))
                          go_wp2_with fail
                          go_roundw
                          case rel => exact ⟨j + 1, gv, S, T, by omega, rfl, by go_num, NW.out, R16.out, R26.out, B6.out⟩
                          case measure => simp [intOf]; omega
                        · cases bq
                          · have NW := hide (show Wi os ws S0 (st S q) T (prk os k (j + 1)) true from HW.out.step HXS.out HWQ.out (prk_next HXJ.out) (.inr ⟨HC3.out, rfl⟩) (.inl ⟨.inr HSK.out, HSQ.out, rfl, rfl⟩))
                            have fS := R16.out.frozen q
                            go_wp2_with fail
                            go_roundw
                            case rel => exact ⟨j + 1, true, (st S q), T, by omega, rfl, by go_num, NW.out, (R16.out.set q _).congr (fun i hi => by by_cases e : i = q <;> simp [st, e]), R26.out.setOther (by simp only; omega) _, B6.out.setCell (by simp only; omega) _⟩
                            case measure => simp [intOf]; omega
                          · have NW := hide (show Wi os ws S0 S T (prk os k (j + 1)) gv from HW.out.step HXS.out HWQ.out (prk_next HXJ.out) (.inr ⟨HC3.out, rfl⟩) (.inr ⟨.inr HSQ.out, rfl, rfl⟩))
                            go_wp2_with fail
                            go_roundw
                            case rel => exact ⟨j + 1, gv, S, T, by omega, rfl, by go_num, NW.out, R16.out, R26.out, B6.out⟩
                            case measure => simp [intOf]; omega
                  · have h1b : (cr2 != 1) = true := by simp [h1]
                    have NW := hide (HW.out.skip (WHQ.out.2 h1) (prk_next HXJ.out))
                    clear h1 WHQ
                    go_wp2_with fail
                    go_roundw
                    case rel => exact ⟨j + 1, gv, S, T, by omega, rfl, by go_num, NW.out, R16.out, R26.out, B6.out⟩
                    case measure => simp [intOf]; omega
              · have hjn : ¬ (j : Int) < (m : Int) := by omega
                have NW := hide (HW.out.pr (prk_row (k := k) (j := j) (by rw [Hsls.out, Hm.out]; omega)))
                go_wp2_with fail
                go_roundw
                case rel => exact ⟨k + 1, gv, S, T, by omega, rfl, by go_num, NW.out, HR1.out, HR2.out, HB2.out⟩
                case measure => simp [intOf]; omega
        · have hkn : ¬ (k : Int) < (n : Int) := by omega
          obtain rfl : k = n := by omega
          have NW := hide (DON.out S0 S T gv HW.out)
          have ML := hide (MSL.out g1 wo wr S0 S T _ gv HR10.out HR1.out HW.out)
          go_wp2_with fail
          go_roundw
          case rel => exact ⟨gv, S, T, rfl, NW.out, HR1.out, HR2.out, HB2.out⟩
          case measure => exact ML.out
end Hu
end Go.Proofs.Ytcjlbecmghaalaa
