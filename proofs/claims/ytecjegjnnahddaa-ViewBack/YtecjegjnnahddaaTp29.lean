/-
  Lemmas: VwBw.
-/
import Derived.Test.YtecjegjnnahddaaTp26
import Derived.Test.YtecjegjnnahddaaTp27
import Derived.Test.YtecjegjnnahddaaTp13
import Derived.Test.YtecjegjnnahddaaTp28
/-
  View: ViewBack: the law's walk
-/
namespace Go.Proofs.Ytecjegjnnahddaa
open Go.RowKit
set_option linter.unusedVariables false
set_option linter.unusedSimpArgs false
set_option linter.unnecessarySimpa false
set_option maxRecDepth 20000
namespace Vw
open Shape

set_option maxHeartbeats 16000000 in
theorem back_walk {o s h r k z m cap : Nat} {s5 : Int} {ao : Option Addr} {f : Nat → Int} {c : Cv} {a : Av} {w : World} (H : (⟨o, s, h, r, k⟩ : Sh).Ok) (hz : size ⟨o, s, h, r, k⟩ = z) (hS : Sees w w.heap.size ao m f) (hcp : m ≤ cap) (hf : ∀ i, i < m → 0 ≤ f i ∧ f i < 18446744073709551616) (hV : Shows w c a) (hB : Bnd c) (hL : Len c) (hh : h ≤ 70000) (hz8 : 8 ≤ z) :
    Calls Try.prog 5 #[.agg #[.int .i64 (o : Int), .int .i64 (s : Int), .int .i64 (h : Int), .int .i64 (r : Int), .int .i64 (k : Int), .int .i64 s5], .slice ao m cap, vl c a] w fun e w' => e = .returned (.bool true) ∧ Below w.heap.size w w' := by
  have hfz := hide (fun (e : m = z) => (by rw [hz, ← e]; exact hf : ∀ i, i < size ⟨o, s, h, r, k⟩ → 0 ≤ f i ∧ f i < 18446744073709551616))
  have HH := hide H
  have HZ := hide hz
  have HS := hide hS
  have HV := hide hV
  have HBD := hide hB
  have HL := hide hL
  clear H hz hS hV hB hL
  obtain ⟨W0, hW0, B0, K⟩ := box w (o : Int) (s : Int) (h : Int) (r : Int) (k : Int) s5
  have HB := hide B0
  have l0 : w.heap.size < W0.heap.size := (K.out W0 (Below.refl _ _)).2.1
  obtain ⟨W1, hW1, B1, R1⟩ := vbox W0 c a
  have B01 := hide B1
  have RV := hide R1
  have l1 : W0.heap.size < W1.heap.size := R1.lt
  have HW1 := hide (HB.out.trans (B01.out.mono HB.out.size))
  clear B0 B1 R1
  simp only [vl]
  by_cases P : c.nr = h ∧ c.no = o ∧ Cq (cv ⟨o, s, h, r, k⟩ (lwF ⟨o, s, h, r, k⟩ c)) c
  · have HP := hide P
    clear P
    go_enter Try.func5, Try.ntmps5
    go_upto_region 3 with (go_at_call 6; refine (awake_ok _).mono ?_; rintro e w2 ⟨rfl, hb⟩; have HB2 := hide hb; clear hb)
    have HK2 := hide (B01.out.trans (HB2.out.mono B01.out.size))
    have HW2 := hide (HW1.out.trans (HB2.out.mono HW1.out.size))
    have RV2 := hide (row_on RV.out HB2.out)
    obtain ⟨-, -, x0, x1, x2, x3, x4, x5⟩ := K.out w2 HK2.out
    have y0 := RV2.out.cell (i := 0) (by decide)
    have y1 := RV2.out.cell (i := 1) (by decide)
    have y2 := RV2.out.cell (i := 2) (by decide)
    have y3 := RV2.out.cell (i := 3) (by decide)
    have y4 := RV2.out.cell (i := 4) (by decide)
    have y5 := RV2.out.cell (i := 5) (by decide)
    have y6 := RV2.out.cell (i := 6) (by decide)
    have y7 := RV2.out.cell (i := 7) (by decide)
    have y8 := RV2.out.cell (i := 8) (by decide)
    have y9 := RV2.out.cell (i := 9) (by decide)
    have y10 := RV2.out.cell (i := 10) (by decide)
    have y11 := RV2.out.cell (i := 11) (by decide)
    have y12 := RV2.out.cell (i := 12) (by decide)
    have y13 := RV2.out.cell (i := 13) (by decide)
    simp only [lrow] at y0 y1 y2 y3 y4 y5 y6 y7 y8 y9 y10 y11 y12 y13
    have LY := hide (vlay_ok (s5 := s5) HH.out HZ.out (HV.out.below HW2.out) HBD.out HL.out)
    simp only [vl] at LY
    go_upto_region 5 with (go_at_call 18; refine LY.out.mono ?_; rintro e w3 ⟨hor, hb⟩; have HOR := hide hor; clear hor; have HB3 := hide hb; clear hb; obtain ⟨g, cp, rfl, hzc, hgl, HWR⟩ := HOR.out.resolve_left' HP.out.1 HP.out.2.1 HP.out.2.2)
    clear x0 x1 x2 x3 x4 x5 y0 y1 y2 y3 y4 y5 y6 y7 y8 y9 y10 y11 y12 y13 LY HOR
    have HK3 := hide (HK2.out.trans (HB3.out.mono HK2.out.size))
    have HW3 := hide (HW2.out.trans (HB3.out.mono HW2.out.size))
    have hlb := hide (lw_bnd HH.out HBD.out HP.out.1 HP.out.2.1)
    have LK := hide (Look_ok (s5 := s5) HH.out HZ.out hzc w3 HWR.out.sees (Nat.le_refl _) (by rw [← HZ.out]; exact hlb.out))
    have hXo := hide (show c.Ok from (cv_ok HH.out hlb.out).congr HP.out.2.2)
    have hXn : c.na ≤ 70000 := by rw [← HP.out.2.2.ac.1]; exact hh
    rw [show vl (cv ⟨o, s, h, r, k⟩ (lwF ⟨o, s, h, r, k⟩ c)) = vl c from funext (fun a' => HP.out.2.2.vl a')] at LK
    simp only [vl] at LK
    obtain ⟨-, -, x0, x1, x2, x3, x4, x5⟩ := K.out w3 HK3.out
    go_upto_region 6 with (go_at_call 9; refine LK.out.mono ?_; rintro e w4 ⟨⟨a4, rfl, HO4⟩, hb⟩; have HB4 := hide hb; have h34 := hb.size; clear hb)
    clear x0 x1 x2 x3 x4 x5 LK
    obtain ⟨W4, hW4⟩ : ∃ W, w4.alloc (.cells #[.int .i64 c.ph, .int .i64 c.co, .int .u64 c.ro, .slice a4.aa c.na a4.ca, .slice a4.ra c.nr a4.cr, .slice a4.wa c.nw a4.cw, .slice a4.oa c.no a4.cb, .slice a4.fa c.fr.length a4.cf, .slice a4.ga c.gr.length a4.cg, .slice a4.qa c.qu.length a4.cq, .int .u64 (c.cn 0), .int .u64 (c.cn 1), .int .u64 (c.cn 2), .int .u64 (c.cn 3)] 33) = W := ⟨_, rfl⟩
    have R4 := hide (show W4.rowIs w4.heap.size 33 14 (lrow [.int .i64 c.ph, .int .i64 c.co, .int .u64 c.ro, .slice a4.aa c.na a4.ca, .slice a4.ra c.nr a4.cr, .slice a4.wa c.nw a4.cw, .slice a4.oa c.no a4.cb, .slice a4.fa c.fr.length a4.cf, .slice a4.ga c.gr.length a4.cg, .slice a4.qa c.qu.length a4.cq, .int .u64 (c.cn 0), .int .u64 (c.cn 1), .int .u64 (c.cn 2), .int .u64 (c.cn 3)]) by rw [← hW4]; exact vrow w4 c a4)
    have hba : Below w4.heap.size w4 W4 := by rw [← hW4]; exact (Below.refl _ _).alloc (Nat.le_refl _) _
    have HB4 := hide (HB4.out.trans (hba.mono HB4.out.size))
    have l4 : w4.heap.size < W4.heap.size := R4.out.lt
    have S4 := hide ((HP.out.2.2.shows HO4.out.shows).below hba)
    have HBC := hide (HB2.out.trans ((HB3.out.trans (HB4.out.mono HB3.out.size)).mono HB2.out.size))
    have RV4 := hide (row_on RV.out HBC.out)
    have lv : W0.heap.size < W4.heap.size := RV4.out.lt
    have HW4 := hide (HW1.out.trans (HBC.out.mono HW1.out.size))
    try simp only [hW4]
    clear hW4 hba HO4
    have y0 := R4.out.cell (i := 0) (by decide)
    have y1 := R4.out.cell (i := 1) (by decide)
    have y2 := R4.out.cell (i := 2) (by decide)
    have y3 := R4.out.cell (i := 3) (by decide)
    have y4 := R4.out.cell (i := 4) (by decide)
    have y5 := R4.out.cell (i := 5) (by decide)
    have y6 := R4.out.cell (i := 6) (by decide)
    have y7 := R4.out.cell (i := 7) (by decide)
    have y8 := R4.out.cell (i := 8) (by decide)
    have y9 := R4.out.cell (i := 9) (by decide)
    have y10 := R4.out.cell (i := 10) (by decide)
    have y11 := R4.out.cell (i := 11) (by decide)
    have y12 := R4.out.cell (i := 12) (by decide)
    have y13 := R4.out.cell (i := 13) (by decide)
    simp only [lrow] at y0 y1 y2 y3 y4 y5 y6 y7 y8 y9 y10 y11 y12 y13
    have v0 := RV4.out.cell (i := 0) (by decide)
    have v1 := RV4.out.cell (i := 1) (by decide)
    have v2 := RV4.out.cell (i := 2) (by decide)
    have v3 := RV4.out.cell (i := 3) (by decide)
    have v4 := RV4.out.cell (i := 4) (by decide)
    have v5 := RV4.out.cell (i := 5) (by decide)
    have v6 := RV4.out.cell (i := 6) (by decide)
    have v7 := RV4.out.cell (i := 7) (by decide)
    have v8 := RV4.out.cell (i := 8) (by decide)
    have v9 := RV4.out.cell (i := 9) (by decide)
    have v10 := RV4.out.cell (i := 10) (by decide)
    have v11 := RV4.out.cell (i := 11) (by decide)
    have v12 := RV4.out.cell (i := 12) (by decide)
    have v13 := RV4.out.cell (i := 13) (by decide)
    simp only [lrow] at v0 v1 v2 v3 v4 v5 v6 v7 v8 v9 v10 v11 v12 v13
    have SM := hide (same_ok (c := c) S4.out (HV.out.below HW4.out) hXo.out hXn)
    simp only [vl] at SM
    go_upto_region 10 with (go_at_call 10; refine SM.out.mono ?_; rintro e w5 ⟨rfl, hb⟩; have HB5 := hide hb; clear hb)
    have HK5 := hide (HBC.out.trans (HB5.out.mono HBC.out.size))
    clear y0 y1 y2 y3 y4 y5 y6 y7 y8 y9 y10 y11 y12 y13 v0 v1 v2 v3 v4 v5 v6 v7 v8 v9 v10 v11 v12 v13 SM hzc hlb HWR hXo hXn
    have HKV := hide (B01.out.trans (HK5.out.mono B01.out.size))
    have HWV := hide (HB.out.trans (HKV.out.mono HB.out.size))
    obtain ⟨-, -, x0, x1, x2, x3, x4, x5⟩ := K.out w5 HKV.out
    by_cases hmz : m = z
    · subst hmz
      obtain ⟨b, off, hao, _, _⟩ := HS.out 0 (by omega)
      subst hao
      have LK := hide (Look_ok (s5 := s5) HH.out HZ.out hcp w5 (sees_on HS.out HWV.out) (Nat.le_refl _) hf)
      have hD := cv_again HH.out (hfz.out rfl)
      have hDo := cv_ok HH.out (hfz.out rfl)
      have hDb := bnd_cv HH.out (hfz.out rfl)
      have hDl := len_cv HH.out (hfz.out rfl)
      have hDn : (cv ⟨o, s, h, r, k⟩ f).na ≤ 70000 := by show h ≤ 70000; omega
      have hDr : (cv ⟨o, s, h, r, k⟩ f).nr = h := rfl
      have hDj : (cv ⟨o, s, h, r, k⟩ f).no = o := rfl
      have hSS := hide (fun (q : Sound ⟨o, s, h, r, k⟩ f) => sound_again HH.out (hfz.out rfl) q)
      obtain ⟨d, hd⟩ : ∃ d, cv ⟨o, s, h, r, k⟩ f = d := ⟨_, rfl⟩
      rw [hd] at LK hD hDo hDb hDl hDn hDr hDj hSS
      have HD := hide hD
      have HDo := hide hDo
      have HDb := hide hDb
      have HDl := hide hDl
      have HDr := hide hDr
      have HDj := hide hDj
      have HDd := hide hd
      clear hD hDo hDb hDl hDr hDj hd
      simp only [vl] at LK
      go_upto_region 11 with (go_at_call 9; refine LK.out.mono ?_; rintro e w10 ⟨⟨a10, rfl, HO10⟩, hb⟩; have HB10 := hide hb; have h910 := hb.size; clear hb)
      clear x0 x1 x2 x3 x4 x5 LK
      obtain ⟨W10, hW10⟩ : ∃ W, w10.alloc (.cells #[.int .i64 d.ph, .int .i64 d.co, .int .u64 d.ro, .slice a10.aa d.na a10.ca, .slice a10.ra d.nr a10.cr, .slice a10.wa d.nw a10.cw, .slice a10.oa d.no a10.cb, .slice a10.fa d.fr.length a10.cf, .slice a10.ga d.gr.length a10.cg, .slice a10.qa d.qu.length a10.cq, .int .u64 (d.cn 0), .int .u64 (d.cn 1), .int .u64 (d.cn 2), .int .u64 (d.cn 3)] 33) = W := ⟨_, rfl⟩
      have R10 := hide (show W10.rowIs w10.heap.size 33 14 (lrow [.int .i64 d.ph, .int .i64 d.co, .int .u64 d.ro, .slice a10.aa d.na a10.ca, .slice a10.ra d.nr a10.cr, .slice a10.wa d.nw a10.cw, .slice a10.oa d.no a10.cb, .slice a10.fa d.fr.length a10.cf, .slice a10.ga d.gr.length a10.cg, .slice a10.qa d.qu.length a10.cq, .int .u64 (d.cn 0), .int .u64 (d.cn 1), .int .u64 (d.cn 2), .int .u64 (d.cn 3)]) by rw [← hW10]; exact vrow w10 d a10)
      have hba : Below w10.heap.size w10 W10 := by rw [← hW10]; exact (Below.refl _ _).alloc (Nat.le_refl _) _
      have O10 := hide (HO10.out.below hba)
      have HB10 := hide (HB10.out.trans (hba.mono HB10.out.size))
      have l10 : w10.heap.size < W10.heap.size := R10.out.lt
      have HK10 := hide (HKV.out.trans (HB10.out.mono HKV.out.size))
      try simp only [hW10]
      clear hW10 hba HO10
      obtain ⟨-, -, x0, x1, x2, x3, x4, x5⟩ := K.out W10 HK10.out
      have y0 := R10.out.cell (i := 0) (by decide)
      have y1 := R10.out.cell (i := 1) (by decide)
      have y2 := R10.out.cell (i := 2) (by decide)
      have y3 := R10.out.cell (i := 3) (by decide)
      have y4 := R10.out.cell (i := 4) (by decide)
      have y5 := R10.out.cell (i := 5) (by decide)
      have y6 := R10.out.cell (i := 6) (by decide)
      have y7 := R10.out.cell (i := 7) (by decide)
      have y8 := R10.out.cell (i := 8) (by decide)
      have y9 := R10.out.cell (i := 9) (by decide)
      have y10 := R10.out.cell (i := 10) (by decide)
      have y11 := R10.out.cell (i := 11) (by decide)
      have y12 := R10.out.cell (i := 12) (by decide)
      have y13 := R10.out.cell (i := 13) (by decide)
      simp only [lrow] at y0 y1 y2 y3 y4 y5 y6 y7 y8 y9 y10 y11 y12 y13
      have LY := hide (vlay_ok (s5 := s5) HH.out HZ.out O10.out.shows HDb.out HDl.out)
      simp only [vl] at LY
      have l10' := hide l10
      go_upto_region 14 with (go_at_call 18; refine LY.out.mono ?_; rintro e w11 ⟨hor, hb⟩; have HOR := hide hor; clear hor; have HB11 := hide hb; clear hb; obtain ⟨g, cp, rfl, hzc, hgl, HWR⟩ := HOR.out.resolve_left' HDr.out HDj.out HD.out)
      clear x0 x1 x2 x3 x4 x5 y0 y1 y2 y3 y4 y5 y6 y7 y8 y9 y10 y11 y12 y13 LY HOR
      have HK11 := hide (HK10.out.trans (HB11.out.mono HK10.out.size))
      have hlb := hide (lw_bnd HH.out HDb.out HDr.out HDj.out)
      have LK := hide (Look_ok (s5 := s5) HH.out HZ.out hzc w11 HWR.out.sees (Nat.le_refl _) (by rw [← HZ.out]; exact hlb.out))
      rw [show vl (cv ⟨o, s, h, r, k⟩ (lwF ⟨o, s, h, r, k⟩ d)) = vl d from funext (fun a' => HD.out.vl a')] at LK
      simp only [vl] at LK
      obtain ⟨-, -, x0, x1, x2, x3, x4, x5⟩ := K.out w11 HK11.out
      go_upto_region 15 with (go_at_call 9; refine LK.out.mono ?_; rintro e w12 ⟨⟨a12, rfl, HO12⟩, hb⟩; have HB12 := hide hb; have h1112 := hb.size; clear hb)
      clear x0 x1 x2 x3 x4 x5 LK
      obtain ⟨W12, hW12⟩ : ∃ W, w12.alloc (.cells #[.int .i64 d.ph, .int .i64 d.co, .int .u64 d.ro, .slice a12.aa d.na a12.ca, .slice a12.ra d.nr a12.cr, .slice a12.wa d.nw a12.cw, .slice a12.oa d.no a12.cb, .slice a12.fa d.fr.length a12.cf, .slice a12.ga d.gr.length a12.cg, .slice a12.qa d.qu.length a12.cq, .int .u64 (d.cn 0), .int .u64 (d.cn 1), .int .u64 (d.cn 2), .int .u64 (d.cn 3)] 33) = W := ⟨_, rfl⟩
      have R12 := hide (show W12.rowIs w12.heap.size 33 14 (lrow [.int .i64 d.ph, .int .i64 d.co, .int .u64 d.ro, .slice a12.aa d.na a12.ca, .slice a12.ra d.nr a12.cr, .slice a12.wa d.nw a12.cw, .slice a12.oa d.no a12.cb, .slice a12.fa d.fr.length a12.cf, .slice a12.ga d.gr.length a12.cg, .slice a12.qa d.qu.length a12.cq, .int .u64 (d.cn 0), .int .u64 (d.cn 1), .int .u64 (d.cn 2), .int .u64 (d.cn 3)]) by rw [← hW12]; exact vrow w12 d a12)
      have hba : Below w12.heap.size w12 W12 := by rw [← hW12]; exact (Below.refl _ _).alloc (Nat.le_refl _) _
      have HB12 := hide (HB12.out.trans (hba.mono HB12.out.size))
      have l12 : w12.heap.size < W12.heap.size := R12.out.lt
      have S12 := hide ((HD.out.shows HO12.out.shows).below hba)
      have HBC := hide (HB11.out.trans (HB12.out.mono HB11.out.size))
      have RU := hide (row_on R10.out HBC.out)
      have lu : w10.heap.size < W12.heap.size := RU.out.lt
      have HK12 := hide (HK11.out.trans (HB12.out.mono HK11.out.size))
      have HW12 := hide (HB.out.trans (HK12.out.mono HB.out.size))
      have WR12 := hide (HWR.out.on HB12.out)
      try simp only [hW12]
      clear hW12 hba HO12
      have y0 := R12.out.cell (i := 0) (by decide)
      have y1 := R12.out.cell (i := 1) (by decide)
      have y2 := R12.out.cell (i := 2) (by decide)
      have y3 := R12.out.cell (i := 3) (by decide)
      have y4 := R12.out.cell (i := 4) (by decide)
      have y5 := R12.out.cell (i := 5) (by decide)
      have y6 := R12.out.cell (i := 6) (by decide)
      have y7 := R12.out.cell (i := 7) (by decide)
      have y8 := R12.out.cell (i := 8) (by decide)
      have y9 := R12.out.cell (i := 9) (by decide)
      have y10 := R12.out.cell (i := 10) (by decide)
      have y11 := R12.out.cell (i := 11) (by decide)
      have y12 := R12.out.cell (i := 12) (by decide)
      have y13 := R12.out.cell (i := 13) (by decide)
      simp only [lrow] at y0 y1 y2 y3 y4 y5 y6 y7 y8 y9 y10 y11 y12 y13
      have v0 := RU.out.cell (i := 0) (by decide)
      have v1 := RU.out.cell (i := 1) (by decide)
      have v2 := RU.out.cell (i := 2) (by decide)
      have v3 := RU.out.cell (i := 3) (by decide)
      have v4 := RU.out.cell (i := 4) (by decide)
      have v5 := RU.out.cell (i := 5) (by decide)
      have v6 := RU.out.cell (i := 6) (by decide)
      have v7 := RU.out.cell (i := 7) (by decide)
      have v8 := RU.out.cell (i := 8) (by decide)
      have v9 := RU.out.cell (i := 9) (by decide)
      have v10 := RU.out.cell (i := 10) (by decide)
      have v11 := RU.out.cell (i := 11) (by decide)
      have v12 := RU.out.cell (i := 12) (by decide)
      have v13 := RU.out.cell (i := 13) (by decide)
      simp only [lrow] at v0 v1 v2 v3 v4 v5 v6 v7 v8 v9 v10 v11 v12 v13
      have SM := hide (same_ok (c := d) S12.out (O10.out.shows.below HBC.out) HDo.out hDn)
      simp only [vl] at SM
      go_upto_region 17 with (go_at_call 10; refine SM.out.mono ?_; rintro e w13 ⟨rfl, hb⟩; have HB13 := hide hb; clear hb)
      have HK13 := hide (HK12.out.trans (HB13.out.mono HK12.out.size))
      have HW13 := hide (HW12.out.trans (HB13.out.mono HW12.out.size))
      have WR13 := hide (WR12.out.on HB13.out)
      clear y0 y1 y2 y3 y4 y5 y6 y7 y8 y9 y10 y11 y12 y13 v0 v1 v2 v3 v4 v5 v6 v7 v8 v9 v10 v11 v12 v13 SM
      obtain ⟨-, -, x0, x1, x2, x3, x4, x5⟩ := K.out w13 HK13.out
      by_cases hs : Sound ⟨o, s, h, r, k⟩ f
      · have CK := hide (check_yes (s5 := s5) HH.out HZ.out hcp (sees_on HS.out HW13.out) (Nat.le_refl _) hf hs)
        have CL := hide (fun (V : World) (hb : Below w13.heap.size w13 V) => check_yes (s5 := s5) HH.out HZ.out hzc (WR13.out.on hb).sees (Nat.le_refl _) (by rw [← HZ.out]; exact hlb.out) (hSS.out hs))
        have HSO := hide hs
        clear hs
        go_wp2_with (first
          | (go_at_call 11; refine CK.out.mono ?_; rintro e w14 ⟨rfl, hb⟩; have HB14 := hide hb; clear hb; have CK := hide (CL.out w14 HB14.out); obtain ⟨-, -, x0, x1, x2, x3, x4, x5⟩ := K.out w14 (HK13.out.trans (HB14.out.mono HK13.out.size)))
          | (go_at_call 11; refine CK.out.mono ?_; rintro e w15 ⟨rfl, hb⟩; have HB15 := hide hb; clear hb))
        go_ret
        exact ⟨rfl, HW13.out.trans ((HB14.out.trans (HB15.out.mono HB14.out.size)).mono HW13.out.size)⟩
      · have CK := hide (check_no (s5 := s5) HH.out HZ.out hcp (sees_on HS.out HW13.out) (Nat.le_refl _) hf hs)
        have HSO := hide hs
        clear hs
        go_wp2_with (go_at_call 11; refine CK.out.mono ?_; rintro e w14 ⟨rfl, hb⟩; have HB14 := hide hb; clear hb)
        go_ret
        exact ⟨rfl, HW13.out.trans (HB14.out.mono HW13.out.size)⟩
    · have hz' : ¬ m = size ⟨o, s, h, r, k⟩ := by rw [HZ.out]; exact hmz
      have LK := hide (look_len (s5 := s5) HH.out ao m cap hz' w5)
      have CK := hide (fun (w1 : World) => check_er (w := w1) (hide (fun w2 => memoryOf_len (s5 := s5) HH.out ao m cap hz' w2)) (by decide))
      have HNE := hide hmz
      clear hmz hz'
      simp [vl, cv0, av0] at LK
      go_upto_region 11 with (go_at_call 9; refine LK.out.mono ?_; rintro e w10 ⟨rfl, hb⟩; have HB10 := hide hb; have h910 := hb.size; clear hb)
      clear x0 x1 x2 x3 x4 x5 LK
      obtain ⟨W10, hW10⟩ : ∃ W, w10.alloc (.cells #[.int .i64 0, .int .i64 0, .int .u64 0, .slice none 0 0, .slice none 0 0, .slice none 0 0, .slice none 0 0, .slice none 0 0, .slice none 0 0, .slice none 0 0, .int .u64 0, .int .u64 0, .int .u64 0, .int .u64 0] 33) = W := ⟨_, rfl⟩
      have R10 := hide (show W10.rowIs w10.heap.size 33 14 (lrow [.int .i64 0, .int .i64 0, .int .u64 0, .slice none 0 0, .slice none 0 0, .slice none 0 0, .slice none 0 0, .slice none 0 0, .slice none 0 0, .slice none 0 0, .int .u64 0, .int .u64 0, .int .u64 0, .int .u64 0]) by rw [← hW10]; exact rowL_alloc w10 [.int .i64 0, .int .i64 0, .int .u64 0, .slice none 0 0, .slice none 0 0, .slice none 0 0, .slice none 0 0, .slice none 0 0, .slice none 0 0, .slice none 0 0, .int .u64 0, .int .u64 0, .int .u64 0, .int .u64 0] _ rfl)
      have hba : Below w10.heap.size w10 W10 := by rw [← hW10]; exact (Below.refl _ _).alloc (Nat.le_refl _) _
      have HB10 := hide (HB10.out.trans (hba.mono HB10.out.size))
      have l10 : w10.heap.size < W10.heap.size := R10.out.lt
      have HK10 := hide (HKV.out.trans (HB10.out.mono HKV.out.size))
      have HW10 := hide (HB.out.trans (HK10.out.mono HB.out.size))
      try simp only [hW10]
      clear hW10 hba
      obtain ⟨-, -, x0, x1, x2, x3, x4, x5⟩ := K.out W10 HK10.out
      have y0 := R10.out.cell (i := 0) (by decide)
      have y1 := R10.out.cell (i := 1) (by decide)
      have y2 := R10.out.cell (i := 2) (by decide)
      have y3 := R10.out.cell (i := 3) (by decide)
      have y4 := R10.out.cell (i := 4) (by decide)
      have y5 := R10.out.cell (i := 5) (by decide)
      have y6 := R10.out.cell (i := 6) (by decide)
      have y7 := R10.out.cell (i := 7) (by decide)
      have y8 := R10.out.cell (i := 8) (by decide)
      have y9 := R10.out.cell (i := 9) (by decide)
      have y10 := R10.out.cell (i := 10) (by decide)
      have y11 := R10.out.cell (i := 11) (by decide)
      have y12 := R10.out.cell (i := 12) (by decide)
      have y13 := R10.out.cell (i := 13) (by decide)
      simp only [lrow] at y0 y1 y2 y3 y4 y5 y6 y7 y8 y9 y10 y11 y12 y13
      go_wp2_with (go_at_call 11; refine (CK.out _).mono ?_; rintro e w14 ⟨rfl, hb⟩; have HB14 := hide hb; clear hb)
      go_ret
      exact ⟨rfl, HW10.out.trans (HB14.out.mono HW10.out.size)⟩
  · have HP := hide P
    clear P
    go_enter Try.func5, Try.ntmps5
    go_upto_region 3 with (go_at_call 6; refine (awake_ok _).mono ?_; rintro e w2 ⟨rfl, hb⟩; have HB2 := hide hb; clear hb)
    have HK2 := hide (B01.out.trans (HB2.out.mono B01.out.size))
    have HW2 := hide (HW1.out.trans (HB2.out.mono HW1.out.size))
    have RV2 := hide (row_on RV.out HB2.out)
    obtain ⟨-, -, x0, x1, x2, x3, x4, x5⟩ := K.out w2 HK2.out
    have y0 := RV2.out.cell (i := 0) (by decide)
    have y1 := RV2.out.cell (i := 1) (by decide)
    have y2 := RV2.out.cell (i := 2) (by decide)
    have y3 := RV2.out.cell (i := 3) (by decide)
    have y4 := RV2.out.cell (i := 4) (by decide)
    have y5 := RV2.out.cell (i := 5) (by decide)
    have y6 := RV2.out.cell (i := 6) (by decide)
    have y7 := RV2.out.cell (i := 7) (by decide)
    have y8 := RV2.out.cell (i := 8) (by decide)
    have y9 := RV2.out.cell (i := 9) (by decide)
    have y10 := RV2.out.cell (i := 10) (by decide)
    have y11 := RV2.out.cell (i := 11) (by decide)
    have y12 := RV2.out.cell (i := 12) (by decide)
    have y13 := RV2.out.cell (i := 13) (by decide)
    simp only [lrow] at y0 y1 y2 y3 y4 y5 y6 y7 y8 y9 y10 y11 y12 y13
    have LY := hide (vlay_ok (s5 := s5) HH.out HZ.out (HV.out.below HW2.out) HBD.out HL.out)
    simp only [vl] at LY
    go_upto_region 10 with (go_at_call 18; refine LY.out.mono ?_; rintro e w3 ⟨hor, hb⟩; have HOR := hide hor; clear hor; have HB3 := hide hb; clear hb; obtain rfl := HOR.out.resolve_right' HP.out)
    clear x0 x1 x2 x3 x4 x5 y0 y1 y2 y3 y4 y5 y6 y7 y8 y9 y10 y11 y12 y13 LY HOR
    have HK5 := hide (HB2.out.trans (HB3.out.mono HB2.out.size))
    have HKV := hide (B01.out.trans (HK5.out.mono B01.out.size))
    have HWV := hide (HB.out.trans (HKV.out.mono HB.out.size))
    obtain ⟨-, -, x0, x1, x2, x3, x4, x5⟩ := K.out w3 HKV.out
    by_cases hmz : m = z
    · subst hmz
      obtain ⟨b, off, hao, _, _⟩ := HS.out 0 (by omega)
      subst hao
      have LK := hide (Look_ok (s5 := s5) HH.out HZ.out hcp w3 (sees_on HS.out HWV.out) (Nat.le_refl _) hf)
      have hD := cv_again HH.out (hfz.out rfl)
      have hDo := cv_ok HH.out (hfz.out rfl)
      have hDb := bnd_cv HH.out (hfz.out rfl)
      have hDl := len_cv HH.out (hfz.out rfl)
      have hDn : (cv ⟨o, s, h, r, k⟩ f).na ≤ 70000 := by show h ≤ 70000; omega
      have hDr : (cv ⟨o, s, h, r, k⟩ f).nr = h := rfl
      have hDj : (cv ⟨o, s, h, r, k⟩ f).no = o := rfl
      have hSS := hide (fun (q : Sound ⟨o, s, h, r, k⟩ f) => sound_again HH.out (hfz.out rfl) q)
      obtain ⟨d, hd⟩ : ∃ d, cv ⟨o, s, h, r, k⟩ f = d := ⟨_, rfl⟩
      rw [hd] at LK hD hDo hDb hDl hDn hDr hDj hSS
      have HD := hide hD
      have HDo := hide hDo
      have HDb := hide hDb
      have HDl := hide hDl
      have HDr := hide hDr
      have HDj := hide hDj
      have HDd := hide hd
      clear hD hDo hDb hDl hDr hDj hd
      simp only [vl] at LK
      go_upto_region 11 with (go_at_call 9; refine LK.out.mono ?_; rintro e w10 ⟨⟨a10, rfl, HO10⟩, hb⟩; have HB10 := hide hb; have h910 := hb.size; clear hb)
      clear x0 x1 x2 x3 x4 x5 LK
      obtain ⟨W10, hW10⟩ : ∃ W, w10.alloc (.cells #[.int .i64 d.ph, .int .i64 d.co, .int .u64 d.ro, .slice a10.aa d.na a10.ca, .slice a10.ra d.nr a10.cr, .slice a10.wa d.nw a10.cw, .slice a10.oa d.no a10.cb, .slice a10.fa d.fr.length a10.cf, .slice a10.ga d.gr.length a10.cg, .slice a10.qa d.qu.length a10.cq, .int .u64 (d.cn 0), .int .u64 (d.cn 1), .int .u64 (d.cn 2), .int .u64 (d.cn 3)] 33) = W := ⟨_, rfl⟩
      have R10 := hide (show W10.rowIs w10.heap.size 33 14 (lrow [.int .i64 d.ph, .int .i64 d.co, .int .u64 d.ro, .slice a10.aa d.na a10.ca, .slice a10.ra d.nr a10.cr, .slice a10.wa d.nw a10.cw, .slice a10.oa d.no a10.cb, .slice a10.fa d.fr.length a10.cf, .slice a10.ga d.gr.length a10.cg, .slice a10.qa d.qu.length a10.cq, .int .u64 (d.cn 0), .int .u64 (d.cn 1), .int .u64 (d.cn 2), .int .u64 (d.cn 3)]) by rw [← hW10]; exact vrow w10 d a10)
      have hba : Below w10.heap.size w10 W10 := by rw [← hW10]; exact (Below.refl _ _).alloc (Nat.le_refl _) _
      have O10 := hide (HO10.out.below hba)
      have HB10 := hide (HB10.out.trans (hba.mono HB10.out.size))
      have l10 : w10.heap.size < W10.heap.size := R10.out.lt
      have HK10 := hide (HKV.out.trans (HB10.out.mono HKV.out.size))
      try simp only [hW10]
      clear hW10 hba HO10
      obtain ⟨-, -, x0, x1, x2, x3, x4, x5⟩ := K.out W10 HK10.out
      have y0 := R10.out.cell (i := 0) (by decide)
      have y1 := R10.out.cell (i := 1) (by decide)
      have y2 := R10.out.cell (i := 2) (by decide)
      have y3 := R10.out.cell (i := 3) (by decide)
      have y4 := R10.out.cell (i := 4) (by decide)
      have y5 := R10.out.cell (i := 5) (by decide)
      have y6 := R10.out.cell (i := 6) (by decide)
      have y7 := R10.out.cell (i := 7) (by decide)
      have y8 := R10.out.cell (i := 8) (by decide)
      have y9 := R10.out.cell (i := 9) (by decide)
      have y10 := R10.out.cell (i := 10) (by decide)
      have y11 := R10.out.cell (i := 11) (by decide)
      have y12 := R10.out.cell (i := 12) (by decide)
      have y13 := R10.out.cell (i := 13) (by decide)
      simp only [lrow] at y0 y1 y2 y3 y4 y5 y6 y7 y8 y9 y10 y11 y12 y13
      have LY := hide (vlay_ok (s5 := s5) HH.out HZ.out O10.out.shows HDb.out HDl.out)
      simp only [vl] at LY
      have l10' := hide l10
      go_upto_region 14 with (go_at_call 18; refine LY.out.mono ?_; rintro e w11 ⟨hor, hb⟩; have HOR := hide hor; clear hor; have HB11 := hide hb; clear hb; obtain ⟨g, cp, rfl, hzc, hgl, HWR⟩ := HOR.out.resolve_left' HDr.out HDj.out HD.out)
      clear x0 x1 x2 x3 x4 x5 y0 y1 y2 y3 y4 y5 y6 y7 y8 y9 y10 y11 y12 y13 LY HOR
      have HK11 := hide (HK10.out.trans (HB11.out.mono HK10.out.size))
      have hlb := hide (lw_bnd HH.out HDb.out HDr.out HDj.out)
      have LK := hide (Look_ok (s5 := s5) HH.out HZ.out hzc w11 HWR.out.sees (Nat.le_refl _) (by rw [← HZ.out]; exact hlb.out))
      rw [show vl (cv ⟨o, s, h, r, k⟩ (lwF ⟨o, s, h, r, k⟩ d)) = vl d from funext (fun a' => HD.out.vl a')] at LK
      simp only [vl] at LK
      obtain ⟨-, -, x0, x1, x2, x3, x4, x5⟩ := K.out w11 HK11.out
      go_upto_region 15 with (go_at_call 9; refine LK.out.mono ?_; rintro e w12 ⟨⟨a12, rfl, HO12⟩, hb⟩; have HB12 := hide hb; have h1112 := hb.size; clear hb)
      clear x0 x1 x2 x3 x4 x5 LK
      obtain ⟨W12, hW12⟩ : ∃ W, w12.alloc (.cells #[.int .i64 d.ph, .int .i64 d.co, .int .u64 d.ro, .slice a12.aa d.na a12.ca, .slice a12.ra d.nr a12.cr, .slice a12.wa d.nw a12.cw, .slice a12.oa d.no a12.cb, .slice a12.fa d.fr.length a12.cf, .slice a12.ga d.gr.length a12.cg, .slice a12.qa d.qu.length a12.cq, .int .u64 (d.cn 0), .int .u64 (d.cn 1), .int .u64 (d.cn 2), .int .u64 (d.cn 3)] 33) = W := ⟨_, rfl⟩
      have R12 := hide (show W12.rowIs w12.heap.size 33 14 (lrow [.int .i64 d.ph, .int .i64 d.co, .int .u64 d.ro, .slice a12.aa d.na a12.ca, .slice a12.ra d.nr a12.cr, .slice a12.wa d.nw a12.cw, .slice a12.oa d.no a12.cb, .slice a12.fa d.fr.length a12.cf, .slice a12.ga d.gr.length a12.cg, .slice a12.qa d.qu.length a12.cq, .int .u64 (d.cn 0), .int .u64 (d.cn 1), .int .u64 (d.cn 2), .int .u64 (d.cn 3)]) by rw [← hW12]; exact vrow w12 d a12)
      have hba : Below w12.heap.size w12 W12 := by rw [← hW12]; exact (Below.refl _ _).alloc (Nat.le_refl _) _
      have HB12 := hide (HB12.out.trans (hba.mono HB12.out.size))
      have l12 : w12.heap.size < W12.heap.size := R12.out.lt
      have S12 := hide ((HD.out.shows HO12.out.shows).below hba)
      have HBC := hide (HB11.out.trans (HB12.out.mono HB11.out.size))
      have RU := hide (row_on R10.out HBC.out)
      have lu : w10.heap.size < W12.heap.size := RU.out.lt
      have HK12 := hide (HK11.out.trans (HB12.out.mono HK11.out.size))
      have HW12 := hide (HB.out.trans (HK12.out.mono HB.out.size))
      have WR12 := hide (HWR.out.on HB12.out)
      try simp only [hW12]
      clear hW12 hba HO12
      have y0 := R12.out.cell (i := 0) (by decide)
      have y1 := R12.out.cell (i := 1) (by decide)
      have y2 := R12.out.cell (i := 2) (by decide)
      have y3 := R12.out.cell (i := 3) (by decide)
      have y4 := R12.out.cell (i := 4) (by decide)
      have y5 := R12.out.cell (i := 5) (by decide)
      have y6 := R12.out.cell (i := 6) (by decide)
      have y7 := R12.out.cell (i := 7) (by decide)
      have y8 := R12.out.cell (i := 8) (by decide)
      have y9 := R12.out.cell (i := 9) (by decide)
      have y10 := R12.out.cell (i := 10) (by decide)
      have y11 := R12.out.cell (i := 11) (by decide)
      have y12 := R12.out.cell (i := 12) (by decide)
      have y13 := R12.out.cell (i := 13) (by decide)
      simp only [lrow] at y0 y1 y2 y3 y4 y5 y6 y7 y8 y9 y10 y11 y12 y13
      have v0 := RU.out.cell (i := 0) (by decide)
      have v1 := RU.out.cell (i := 1) (by decide)
      have v2 := RU.out.cell (i := 2) (by decide)
      have v3 := RU.out.cell (i := 3) (by decide)
      have v4 := RU.out.cell (i := 4) (by decide)
      have v5 := RU.out.cell (i := 5) (by decide)
      have v6 := RU.out.cell (i := 6) (by decide)
      have v7 := RU.out.cell (i := 7) (by decide)
      have v8 := RU.out.cell (i := 8) (by decide)
      have v9 := RU.out.cell (i := 9) (by decide)
      have v10 := RU.out.cell (i := 10) (by decide)
      have v11 := RU.out.cell (i := 11) (by decide)
      have v12 := RU.out.cell (i := 12) (by decide)
      have v13 := RU.out.cell (i := 13) (by decide)
      simp only [lrow] at v0 v1 v2 v3 v4 v5 v6 v7 v8 v9 v10 v11 v12 v13
      have SM := hide (same_ok (c := d) S12.out (O10.out.shows.below HBC.out) HDo.out hDn)
      simp only [vl] at SM
      go_upto_region 17 with (go_at_call 10; refine SM.out.mono ?_; rintro e w13 ⟨rfl, hb⟩; have HB13 := hide hb; clear hb)
      have HK13 := hide (HK12.out.trans (HB13.out.mono HK12.out.size))
      have HW13 := hide (HW12.out.trans (HB13.out.mono HW12.out.size))
      have WR13 := hide (WR12.out.on HB13.out)
      clear y0 y1 y2 y3 y4 y5 y6 y7 y8 y9 y10 y11 y12 y13 v0 v1 v2 v3 v4 v5 v6 v7 v8 v9 v10 v11 v12 v13 SM
      obtain ⟨-, -, x0, x1, x2, x3, x4, x5⟩ := K.out w13 HK13.out
      by_cases hs : Sound ⟨o, s, h, r, k⟩ f
      · have CK := hide (check_yes (s5 := s5) HH.out HZ.out hcp (sees_on HS.out HW13.out) (Nat.le_refl _) hf hs)
        have CL := hide (fun (V : World) (hb : Below w13.heap.size w13 V) => check_yes (s5 := s5) HH.out HZ.out hzc (WR13.out.on hb).sees (Nat.le_refl _) (by rw [← HZ.out]; exact hlb.out) (hSS.out hs))
        have HSO := hide hs
        clear hs
        go_wp2_with (first
          | (go_at_call 11; refine CK.out.mono ?_; rintro e w14 ⟨rfl, hb⟩; have HB14 := hide hb; clear hb; have CK := hide (CL.out w14 HB14.out); obtain ⟨-, -, x0, x1, x2, x3, x4, x5⟩ := K.out w14 (HK13.out.trans (HB14.out.mono HK13.out.size)))
          | (go_at_call 11; refine CK.out.mono ?_; rintro e w15 ⟨rfl, hb⟩; have HB15 := hide hb; clear hb))
        go_ret
        exact ⟨rfl, HW13.out.trans ((HB14.out.trans (HB15.out.mono HB14.out.size)).mono HW13.out.size)⟩
      · have CK := hide (check_no (s5 := s5) HH.out HZ.out hcp (sees_on HS.out HW13.out) (Nat.le_refl _) hf hs)
        have HSO := hide hs
        clear hs
        go_wp2_with (go_at_call 11; refine CK.out.mono ?_; rintro e w14 ⟨rfl, hb⟩; have HB14 := hide hb; clear hb)
        go_ret
        exact ⟨rfl, HW13.out.trans (HB14.out.mono HW13.out.size)⟩
    · have hz' : ¬ m = size ⟨o, s, h, r, k⟩ := by rw [HZ.out]; exact hmz
      have LK := hide (look_len (s5 := s5) HH.out ao m cap hz' w3)
      have CK := hide (fun (w1 : World) => check_er (w := w1) (hide (fun w2 => memoryOf_len (s5 := s5) HH.out ao m cap hz' w2)) (by decide))
      have HNE := hide hmz
      clear hmz hz'
      simp [vl, cv0, av0] at LK
      go_upto_region 11 with (go_at_call 9; refine LK.out.mono ?_; rintro e w10 ⟨rfl, hb⟩; have HB10 := hide hb; have h910 := hb.size; clear hb)
      clear x0 x1 x2 x3 x4 x5 LK
      obtain ⟨W10, hW10⟩ : ∃ W, w10.alloc (.cells #[.int .i64 0, .int .i64 0, .int .u64 0, .slice none 0 0, .slice none 0 0, .slice none 0 0, .slice none 0 0, .slice none 0 0, .slice none 0 0, .slice none 0 0, .int .u64 0, .int .u64 0, .int .u64 0, .int .u64 0] 33) = W := ⟨_, rfl⟩
      have R10 := hide (show W10.rowIs w10.heap.size 33 14 (lrow [.int .i64 0, .int .i64 0, .int .u64 0, .slice none 0 0, .slice none 0 0, .slice none 0 0, .slice none 0 0, .slice none 0 0, .slice none 0 0, .slice none 0 0, .int .u64 0, .int .u64 0, .int .u64 0, .int .u64 0]) by rw [← hW10]; exact rowL_alloc w10 [.int .i64 0, .int .i64 0, .int .u64 0, .slice none 0 0, .slice none 0 0, .slice none 0 0, .slice none 0 0, .slice none 0 0, .slice none 0 0, .slice none 0 0, .int .u64 0, .int .u64 0, .int .u64 0, .int .u64 0] _ rfl)
      have hba : Below w10.heap.size w10 W10 := by rw [← hW10]; exact (Below.refl _ _).alloc (Nat.le_refl _) _
      have HB10 := hide (HB10.out.trans (hba.mono HB10.out.size))
      have l10 : w10.heap.size < W10.heap.size := R10.out.lt
      have HK10 := hide (HKV.out.trans (HB10.out.mono HKV.out.size))
      have HW10 := hide (HB.out.trans (HK10.out.mono HB.out.size))
      try simp only [hW10]
      clear hW10 hba
      obtain ⟨-, -, x0, x1, x2, x3, x4, x5⟩ := K.out W10 HK10.out
      have y0 := R10.out.cell (i := 0) (by decide)
      have y1 := R10.out.cell (i := 1) (by decide)
      have y2 := R10.out.cell (i := 2) (by decide)
      have y3 := R10.out.cell (i := 3) (by decide)
      have y4 := R10.out.cell (i := 4) (by decide)
      have y5 := R10.out.cell (i := 5) (by decide)
      have y6 := R10.out.cell (i := 6) (by decide)
      have y7 := R10.out.cell (i := 7) (by decide)
      have y8 := R10.out.cell (i := 8) (by decide)
      have y9 := R10.out.cell (i := 9) (by decide)
      have y10 := R10.out.cell (i := 10) (by decide)
      have y11 := R10.out.cell (i := 11) (by decide)
      have y12 := R10.out.cell (i := 12) (by decide)
      have y13 := R10.out.cell (i := 13) (by decide)
      simp only [lrow] at y0 y1 y2 y3 y4 y5 y6 y7 y8 y9 y10 y11 y12 y13
      go_wp2_with (go_at_call 11; refine (CK.out _).mono ?_; rintro e w14 ⟨rfl, hb⟩; have HB14 := hide hb; clear hb)
      go_ret
      exact ⟨rfl, HW10.out.trans (HB14.out.mono HW10.out.size)⟩
end Vw
end Go.Proofs.Ytecjegjnnahddaa
