/-
  Lemmas: VwLp.
-/
import Derived.Test.YtecjegjnnahddaaGreatTp29
import Derived.Test.YtecjegjnnahddaaGreatTp20
import Derived.Test.YtecjegjnnahddaaGreatTp32
/-
  View: ViewLays: the law's walk
-/
namespace Go.Proofs.YtecjegjnnahddaaGreat
open Go.RowKit
set_option linter.unusedVariables false
set_option linter.unusedSimpArgs false
set_option linter.unnecessarySimpa false
set_option maxRecDepth 20000
namespace Vw
open Shape
/-- Words that were laid: none, or a block of their own. -/
def LWo (w : World) (lo : Nat) (ao : Option Addr) (n cap : Nat) (F : Nat → Int) : Prop := (n = 0 ∧ ao = none ∧ cap = 0) ∨ ∃ g, ao = some ⟨g, 0, none⟩ ∧ n ≤ cap ∧ lo ≤ g ∧ Wr w g n F
theorem LWo.on {w w' : World} {lo n cap : Nat} {ao : Option Addr} {F : Nat → Int} (h : LWo w lo ao n cap F) (hb : Below w.heap.size w w') : LWo w' lo ao n cap F := by
  rcases h with h | ⟨g, e, hc, hl, hw⟩
  · exact .inl h
  · exact .inr ⟨g, e, hc, hl, hw.on hb⟩
theorem LWo.sees {w : World} {lo n cap : Nat} {ao : Option Addr} {F : Nat → Int} (h : LWo w lo ao n cap F) : Sees w w.heap.size ao n F := by
  rcases h with ⟨h, _, _⟩ | ⟨g, rfl, hc, hl, hw⟩
  · subst h; exact fun j hj => absurd hj (by omega)
  · exact hw.sees

set_option maxHeartbeats 16000000 in
theorem lays_walk {s0 s1 s2 s3 s4 s5 er : Int} {n : Nat} {F : Nat → Int} {c : Cv} {av : Av} {w : World} (hS : Shows w c av) (hN : Nv w c av) (hW : Wt c) (hn : n ≤ 600)
    (LR : ∀ w1, Below w.heap.size w w1 → Calls Tryz.prog 6 #[.agg #[.int .i64 s0, .int .i64 s1, .int .i64 s2, .int .i64 s3, .int .i64 s4, .int .i64 s5], vl c av] w1 fun e w' => (∃ ao cap, e = .returned (.tuple #[.slice ao n cap, .int .i64 er]) ∧ Hid (Sees w' w'.heap.size ao n F)) ∧ Below w1.heap.size w1 w')
    (LP : ∀ w1 a', Shows w1 c a' → Calls Tryz.prog 7 #[.agg #[.int .i64 s0, .int .i64 s1, .int .i64 s2, .int .i64 s3, .int .i64 s4, .int .i64 s5], vl c a'] w1 fun e w' => (∃ ao cap, e = .returned (.tuple #[.slice ao n cap, .int .i64 er]) ∧ Hid (LWo w' w1.heap.size ao n cap F)) ∧ Below w1.heap.size w1 w') :
    Calls Tryz.prog 3 #[.agg #[.int .i64 s0, .int .i64 s1, .int .i64 s2, .int .i64 s3, .int .i64 s4, .int .i64 s5], vl c av] w fun e w' => e = .returned (.bool true) ∧ Below w.heap.size w w' := by
  obtain ⟨W0, hW0, B0, K⟩ := box w s0 s1 s2 s3 s4 s5
  have HB := hide B0
  have l0 : w.heap.size < W0.heap.size := (K.out W0 (Below.refl _ _)).2.1
  obtain ⟨W1, hW1, B1, R1⟩ := vbox W0 c av
  have B01 := hide B1
  have RV := hide R1
  have l1 : W0.heap.size < W1.heap.size := R1.lt
  have HW1 := hide (HB.out.trans (B01.out.mono HB.out.size))
  have SV := hide (fun (V : World) (hb : Below W1.heap.size W1 V) => hS.below (HW1.out.trans (hb.mono HW1.out.size)))
  have NV := hide (fun (V : World) (hb : Below W1.heap.size W1 V) => hN.below hS (HW1.out.trans (hb.mono HW1.out.size)))
  have LRV := hide (fun (V : World) (hb : Below W1.heap.size W1 V) => LR V (HW1.out.trans (hb.mono HW1.out.size)))
  have HW := hide hW
  have LPH := hide LP
  clear hS hN hW B0 B1 R1 LR LP
  simp only [vl] at LRV ⊢
  go_enter Tryz.func3, Tryz.ntmps3
  go_upto_region 3 with (go_at_call 4; refine (awake_ok _).mono ?_; rintro e w2 ⟨rfl, hb⟩; have HB2 := hide hb; clear hb)
  have CP := hide (copied_ok (SV.out _ HB2.out) (NV.out _ HB2.out) HW.out)
  simp only [vl] at CP
  have y0 := (row_on RV.out HB2.out).cell (i := 0) (by decide)
  have y1 := (row_on RV.out HB2.out).cell (i := 1) (by decide)
  have y2 := (row_on RV.out HB2.out).cell (i := 2) (by decide)
  have y3 := (row_on RV.out HB2.out).cell (i := 3) (by decide)
  have y4 := (row_on RV.out HB2.out).cell (i := 4) (by decide)
  have y5 := (row_on RV.out HB2.out).cell (i := 5) (by decide)
  have y6 := (row_on RV.out HB2.out).cell (i := 6) (by decide)
  have y7 := (row_on RV.out HB2.out).cell (i := 7) (by decide)
  have y8 := (row_on RV.out HB2.out).cell (i := 8) (by decide)
  have y9 := (row_on RV.out HB2.out).cell (i := 9) (by decide)
  have y10 := (row_on RV.out HB2.out).cell (i := 10) (by decide)
  have y11 := (row_on RV.out HB2.out).cell (i := 11) (by decide)
  have y12 := (row_on RV.out HB2.out).cell (i := 12) (by decide)
  have y13 := (row_on RV.out HB2.out).cell (i := 13) (by decide)
  simp only [lrow] at y0 y1 y2 y3 y4 y5 y6 y7 y8 y9 y10 y11 y12 y13
  go_upto_region 4 with (go_at_call 5; refine CP.out.mono ?_; rintro e w3 ⟨⟨a2, rfl, HM⟩, hb⟩; have HB3 := hide hb; have h23 := hb.size; clear hb)
  clear CP y0 y1 y2 y3 y4 y5 y6 y7 y8 y9 y10 y11 y12 y13
  obtain ⟨W3, hW3⟩ : ∃ W, w3.alloc (.cells #[.int .i64 c.ph, .int .i64 c.co, .int .u64 c.ro, .slice a2.aa c.na a2.ca, .slice a2.ra c.nr a2.cr, .slice a2.wa c.nw a2.cw, .slice a2.oa c.no a2.cb, .slice a2.fa c.fr.length a2.cf, .slice a2.ga c.gr.length a2.cg, .slice a2.qa c.qu.length a2.cq, .int .u64 (c.cn 0), .int .u64 (c.cn 1), .int .u64 (c.cn 2), .int .u64 (c.cn 3)] 31) = W := ⟨_, rfl⟩
  have R3 := hide (show W3.rowIs w3.heap.size 31 14 (lrow [.int .i64 c.ph, .int .i64 c.co, .int .u64 c.ro, .slice a2.aa c.na a2.ca, .slice a2.ra c.nr a2.cr, .slice a2.wa c.nw a2.cw, .slice a2.oa c.no a2.cb, .slice a2.fa c.fr.length a2.cf, .slice a2.ga c.gr.length a2.cg, .slice a2.qa c.qu.length a2.cq, .int .u64 (c.cn 0), .int .u64 (c.cn 1), .int .u64 (c.cn 2), .int .u64 (c.cn 3)]) by rw [← hW3]; exact rowL_alloc w3 [.int .i64 c.ph, .int .i64 c.co, .int .u64 c.ro, .slice a2.aa c.na a2.ca, .slice a2.ra c.nr a2.cr, .slice a2.wa c.nw a2.cw, .slice a2.oa c.no a2.cb, .slice a2.fa c.fr.length a2.cf, .slice a2.ga c.gr.length a2.cg, .slice a2.qa c.qu.length a2.cq, .int .u64 (c.cn 0), .int .u64 (c.cn 1), .int .u64 (c.cn 2), .int .u64 (c.cn 3)] _ rfl)
  have hba : Below w3.heap.size w3 W3 := by rw [← hW3]; exact (Below.refl _ _).alloc (Nat.le_refl _) _
  have M3 := hide (HM.out.keep (fun b h1 _ => hba.block b h1))
  have HB3 := hide (HB2.out.trans ((HB3.out.trans (hba.mono h23)).mono HB2.out.size))
  have l3 : w3.heap.size < W3.heap.size := R3.out.lt
  try simp only [hW3]
  clear hW3 hba HM
  obtain ⟨-, -, x0, x1, x2, x3, x4, x5⟩ := K.out _ ((B01.out.trans (HB3.out.mono B01.out.size)))
  have y0 := (row_on RV.out HB3.out).cell (i := 0) (by decide)
  have y1 := (row_on RV.out HB3.out).cell (i := 1) (by decide)
  have y2 := (row_on RV.out HB3.out).cell (i := 2) (by decide)
  have y3 := (row_on RV.out HB3.out).cell (i := 3) (by decide)
  have y4 := (row_on RV.out HB3.out).cell (i := 4) (by decide)
  have y5 := (row_on RV.out HB3.out).cell (i := 5) (by decide)
  have y6 := (row_on RV.out HB3.out).cell (i := 6) (by decide)
  have y7 := (row_on RV.out HB3.out).cell (i := 7) (by decide)
  have y8 := (row_on RV.out HB3.out).cell (i := 8) (by decide)
  have y9 := (row_on RV.out HB3.out).cell (i := 9) (by decide)
  have y10 := (row_on RV.out HB3.out).cell (i := 10) (by decide)
  have y11 := (row_on RV.out HB3.out).cell (i := 11) (by decide)
  have y12 := (row_on RV.out HB3.out).cell (i := 12) (by decide)
  have y13 := (row_on RV.out HB3.out).cell (i := 13) (by decide)
  simp only [lrow] at y0 y1 y2 y3 y4 y5 y6 y7 y8 y9 y10 y11 y12 y13
  have LK := hide (LRV.out _ HB3.out)
  go_upto_region 5 with (go_at_call 6; refine LK.out.mono ?_; rintro e w4 ⟨⟨ar, cpr, rfl, HR⟩, hb⟩; have H34 := hide hb; have h34 := hb.size; clear hb)
  clear LK x0 x1 x2 x3 x4 x5 y0 y1 y2 y3 y4 y5 y6 y7 y8 y9 y10 y11 y12 y13
  have HB4 := hide (HB3.out.trans (H34.out.mono HB3.out.size))
  have M4 := hide (M3.out.keep (fun b h1 _ => H34.out.block b h1))
  have R4 := hide (row_on R3.out H34.out)
  have LK := hide (LPH.out w4 a2 M4.out.shows)
  simp only [vl] at LK
  obtain ⟨-, -, x0, x1, x2, x3, x4, x5⟩ := K.out _ ((B01.out.trans (HB4.out.mono B01.out.size)))
  have y0 := R4.out.cell (i := 0) (by decide)
  have y1 := R4.out.cell (i := 1) (by decide)
  have y2 := R4.out.cell (i := 2) (by decide)
  have y3 := R4.out.cell (i := 3) (by decide)
  have y4 := R4.out.cell (i := 4) (by decide)
  have y5 := R4.out.cell (i := 5) (by decide)
  have y6 := R4.out.cell (i := 6) (by decide)
  have y7 := R4.out.cell (i := 7) (by decide)
  have y8 := R4.out.cell (i := 8) (by decide)
  have y9 := R4.out.cell (i := 9) (by decide)
  have y10 := R4.out.cell (i := 10) (by decide)
  have y11 := R4.out.cell (i := 11) (by decide)
  have y12 := R4.out.cell (i := 12) (by decide)
  have y13 := R4.out.cell (i := 13) (by decide)
  simp only [lrow] at y0 y1 y2 y3 y4 y5 y6 y7 y8 y9 y10 y11 y12 y13
  go_upto_region 6 with (go_at_call 7; refine LK.out.mono ?_; rintro e w5 ⟨⟨a8, c8, rfl, HL8⟩, hb⟩; have H45 := hide hb; have h45 := hb.size; clear hb)
  clear LK x0 x1 x2 x3 x4 x5 y0 y1 y2 y3 y4 y5 y6 y7 y8 y9 y10 y11 y12 y13
  have HB5 := hide (HB4.out.trans (H45.out.mono HB4.out.size))
  have LT8 := hide (show ∀ g, a8 = some ⟨g, 0, none⟩ → g < w5.heap.size from fun g e => by
    rcases HL8.out with ⟨_, h2, _⟩ | ⟨g8, e9, _, _, hw8⟩
    · rw [h2] at e; cases e
    · rw [e9] at e; cases e; exact hw8.lt)
  have M5 := hide (M4.out.keep (fun b h1 _ => H45.out.block b h1))
  have R5 := hide (row_on R4.out H45.out)
  have LK := hide (LPH.out w5 a2 M5.out.shows)
  simp only [vl] at LK
  obtain ⟨-, -, x0, x1, x2, x3, x4, x5⟩ := K.out _ ((B01.out.trans (HB5.out.mono B01.out.size)))
  have y0 := R5.out.cell (i := 0) (by decide)
  have y1 := R5.out.cell (i := 1) (by decide)
  have y2 := R5.out.cell (i := 2) (by decide)
  have y3 := R5.out.cell (i := 3) (by decide)
  have y4 := R5.out.cell (i := 4) (by decide)
  have y5 := R5.out.cell (i := 5) (by decide)
  have y6 := R5.out.cell (i := 6) (by decide)
  have y7 := R5.out.cell (i := 7) (by decide)
  have y8 := R5.out.cell (i := 8) (by decide)
  have y9 := R5.out.cell (i := 9) (by decide)
  have y10 := R5.out.cell (i := 10) (by decide)
  have y11 := R5.out.cell (i := 11) (by decide)
  have y12 := R5.out.cell (i := 12) (by decide)
  have y13 := R5.out.cell (i := 13) (by decide)
  simp only [lrow] at y0 y1 y2 y3 y4 y5 y6 y7 y8 y9 y10 y11 y12 y13
  go_upto_region 7 with (go_at_call 7; refine LK.out.mono ?_; rintro e w6 ⟨⟨a10, c10, rfl, HL10⟩, hb⟩; have H56 := hide hb; have h56 := hb.size; clear hb)
  clear LK LPH x0 x1 x2 x3 x4 x5 y0 y1 y2 y3 y4 y5 y6 y7 y8 y9 y10 y11 y12 y13
  have HB6 := hide (HB5.out.trans (H56.out.mono HB5.out.size))
  have HL8 := hide (HL8.out.on H56.out)
  have H46 := hide (H45.out.trans (H56.out.mono h45))
  have HR6 := hide ((HR.out.below H46.out (Nat.le_refl _)).mono H46.out.size)
  have HR4 := hide (HR.out.below H46.out (Nat.le_refl _))
  have SW := hide (same_words (cap := c8) (cap' := cpr) HL8.out.sees HR6.out (fun _ _ => rfl) (by omega))
  go_upto_region 9 with (go_at_call 8; refine SW.out.mono ?_; rintro e w7 ⟨rfl, m7, rfl⟩)
  obtain ⟨V, hV⟩ : ∃ V, V = w6.drewN m7 := ⟨_, rfl⟩
  have b67 : Below w6.heap.size w6 V := by rw [hV]; exact below_drewN (Below.refl _ _) _
  have H47 := hide (H46.out.trans (b67.mono H46.out.size))
  have HL8 := hide (HL8.out.on b67)
  have HL10 := hide (HL10.out.on b67)
  have HR7 := hide (HR4.out.below b67 (by omega))
  have hs4 : w4.heap.size ≤ V.heap.size := H47.out.size
  have hs5 : w4.heap.size ≤ w5.heap.size := h45
  try simp only [← hV]
  clear hV b67 SW HR HR6 HR4
  go_wp2_with fail
  go_loopw [51] (fun i wr => ∃ q : Nat, q ≤ n ∧ i = .int .i64 q ∧ Hid (Below w4.heap.size V wr) ∧ Hid (∀ k, ¬ a8 = some ⟨k, 0, none⟩ → wr.heap[k]? = V.heap[k]?) ∧ Hid (∃ G, LWo wr w4.heap.size a8 n c8 G)) (fun i _ => n - (intOf i).toNat)
  case atStart => exact ⟨0, Nat.zero_le _, rfl, Below.refl _ _, fun _ _ => rfl, ⟨_, HL8.out⟩⟩
  case round =>
    obtain ⟨q, hq, rfl, HBr, HKr, HGr⟩ := hrel
    by_cases hlt : q < n
    · have hqi : (q : Int) < (n : Int) := by omega
      obtain ⟨G, ⟨h0, _⟩ | ⟨g, rfl, hc8, hlg, hwr⟩⟩ := HGr.out
      · omega
      have hcl := hwr.cell hlt
      have hfz := hwr.frozen q
      have HWS := hide (hwr.set hlt 99)
      have hgl := hwr.lt
      clear hwr
      go_wp2_with fail
      go_roundw
      case rel => exact ⟨q + 1, by omega, by go_num, HBr.out.setCell (show w4.heap.size ≤ g from hlg) _, fun k hk => (Below.heap_setCell _ _ _ _ (fun e => hk (by rw [e]))).trans (HKr.out k hk), ⟨_, .inr ⟨g, rfl, hc8, hlg, HWS.out⟩⟩⟩
      case measure => simp [intOf]; omega
    · obtain rfl : q = n := by omega
      have hqi : ¬ (q : Int) < (q : Int) := by omega
      have H4r := hide (H47.out.trans (HBr.out.mono (Nat.le_refl _)))
      have HBE := hide (HB4.out.trans (H4r.out.mono HB4.out.size))
      have ME := hide (M4.out.keep (fun b h1 _ => H4r.out.block b h1))
      have RE := hide (row_on R4.out H4r.out)
      have HX10 := hide (show LWo wr w5.heap.size a10 q c10 F from by
        rcases HL10.out with h | ⟨g, e, hc, hl, hw⟩
        · exact .inl h
        · exact .inr ⟨g, e, hc, hl, hw.other (HKr.out g (fun e8 => by have := LT8.out g e8; omega))⟩)
      have SW := hide (same_words (cap := c10) (cap' := cpr) HX10.out.sees ((HR7.out.below HBr.out (Nat.le_refl _)).mono H4r.out.size) (fun _ _ => rfl) (by omega))
      have KP := hide (fun m => kept_ok (w := wr.drewN m) (ME.out.keep (fun _ _ _ => rfl)) (SV.out _ (below_drewN HBE.out m)) HW.out)
      simp only [vl] at KP
      have u0 := RE.out.cell (i := 0) (by decide)
      have u1 := RE.out.cell (i := 1) (by decide)
      have u2 := RE.out.cell (i := 2) (by decide)
      have u3 := RE.out.cell (i := 3) (by decide)
      have u4 := RE.out.cell (i := 4) (by decide)
      have u5 := RE.out.cell (i := 5) (by decide)
      have u6 := RE.out.cell (i := 6) (by decide)
      have u7 := RE.out.cell (i := 7) (by decide)
      have u8 := RE.out.cell (i := 8) (by decide)
      have u9 := RE.out.cell (i := 9) (by decide)
      have u10 := RE.out.cell (i := 10) (by decide)
      have u11 := RE.out.cell (i := 11) (by decide)
      have u12 := RE.out.cell (i := 12) (by decide)
      have u13 := RE.out.cell (i := 13) (by decide)
      simp only [lrow] at u0 u1 u2 u3 u4 u5 u6 u7 u8 u9 u10 u11 u12 u13
      have y0 := (row_on RV.out HBE.out).cell (i := 0) (by decide)
      have y1 := (row_on RV.out HBE.out).cell (i := 1) (by decide)
      have y2 := (row_on RV.out HBE.out).cell (i := 2) (by decide)
      have y3 := (row_on RV.out HBE.out).cell (i := 3) (by decide)
      have y4 := (row_on RV.out HBE.out).cell (i := 4) (by decide)
      have y5 := (row_on RV.out HBE.out).cell (i := 5) (by decide)
      have y6 := (row_on RV.out HBE.out).cell (i := 6) (by decide)
      have y7 := (row_on RV.out HBE.out).cell (i := 7) (by decide)
      have y8 := (row_on RV.out HBE.out).cell (i := 8) (by decide)
      have y9 := (row_on RV.out HBE.out).cell (i := 9) (by decide)
      have y10 := (row_on RV.out HBE.out).cell (i := 10) (by decide)
      have y11 := (row_on RV.out HBE.out).cell (i := 11) (by decide)
      have y12 := (row_on RV.out HBE.out).cell (i := 12) (by decide)
      have y13 := (row_on RV.out HBE.out).cell (i := 13) (by decide)
      simp only [lrow] at y0 y1 y2 y3 y4 y5 y6 y7 y8 y9 y10 y11 y12 y13
      go_wp2_with (first
        | (go_at_call 8; refine SW.out.mono ?_; rintro e w8 ⟨rfl, m8, rfl⟩)
        | (go_at_call 9; refine (KP.out _).mono ?_; rintro e w9 ⟨rfl, hb⟩; have HB9 := hide hb; clear hb))
      go_ret
      have hf : Below wr.heap.size wr _ := (below_drewN (Below.refl wr.heap.size wr) m8).trans HB9.out
      exact ⟨rfl, HW1.out.trans ((HBE.out.trans (hf.mono HBE.out.size)).mono HW1.out.size)⟩
end Vw
end Go.Proofs.YtecjegjnnahddaaGreat
