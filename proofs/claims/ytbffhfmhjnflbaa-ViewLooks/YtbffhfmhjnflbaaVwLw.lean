/-
  View: ViewLooks: the law
-/
import Derived.Test.YtbffhfmhjnflbaaVwLa
import Derived.Test.YtbffhfmhjnflbaaVwT
namespace Go.Proofs.Ytbffhfmhjnflbaa
open Go.RowKit
set_option linter.unusedVariables false
set_option linter.unusedSimpArgs false
set_option linter.unnecessarySimpa false
set_option maxRecDepth 20000
namespace Vw
open Shape
theorem ex_neqI {ev : Operand → Value} {o : Oper} {w : World} {x y : Operand} {m n : Int} {t : TypeId} (ho : o.op = .binOp .neq t x y t) (ht : t = 3) (hx : ev x = .int .i64 m) (hy : ev y = .int .i64 n) (hb : (m != n) = false) : (execOp ev o).run Try.prog w = .ok (.value (.bool false)) w := by
  subst ht
  simp [execOp, ho, hx, hy, go_sem, hb]
theorem rng6 {w' : World} {b : Nat} {v0 v1 v2 v3 v4 v5 : Value} (y0 : w'.cell? ⟨b, 0, none⟩ = some v0) (y1 : w'.cell? ⟨b, 1, none⟩ = some v1) (y2 : w'.cell? ⟨b, 2, none⟩ = some v2) (y3 : w'.cell? ⟨b, 3, none⟩ = some v3) (y4 : w'.cell? ⟨b, 4, none⟩ = some v4) (y5 : w'.cell? ⟨b, 5, none⟩ = some v5) : w'.rangeAt b 0 [v0, v1, v2, v3, v4, v5] := by
  intro j v hv
  match j, hv with
  | 0, hv => cases hv; simpa using y0
  | 1, hv => cases hv; simpa using y1
  | 2, hv => cases hv; simpa using y2
  | 3, hv => cases hv; simpa using y3
  | 4, hv => cases hv; simpa using y4
  | 5, hv => cases hv; simpa using y5
theorem vrow (w : World) (c : Cv) (a : Av) : (w.alloc (.cells #[.int .i64 c.ph, .int .i64 c.co, .int .u64 c.ro, .slice a.aa c.na a.ca, .slice a.ra c.nr a.cr, .slice a.wa c.nw a.cw, .slice a.oa c.no a.cb, .slice a.fa c.fr.length a.cf, .slice a.ga c.gr.length a.cg, .slice a.qa c.qu.length a.cq, .int .u64 (c.cn 0), .int .u64 (c.cn 1), .int .u64 (c.cn 2), .int .u64 (c.cn 3)] 33)).rowIs w.heap.size 33 14 (lrow [.int .i64 c.ph, .int .i64 c.co, .int .u64 c.ro, .slice a.aa c.na a.ca, .slice a.ra c.nr a.cr, .slice a.wa c.nw a.cw, .slice a.oa c.no a.cb, .slice a.fa c.fr.length a.cf, .slice a.ga c.gr.length a.cg, .slice a.qa c.qu.length a.cq, .int .u64 (c.cn 0), .int .u64 (c.cn 1), .int .u64 (c.cn 2), .int .u64 (c.cn 3)]) := rowL_alloc w [.int .i64 c.ph, .int .i64 c.co, .int .u64 c.ro, .slice a.aa c.na a.ca, .slice a.ra c.nr a.cr, .slice a.wa c.nw a.cw, .slice a.oa c.no a.cb, .slice a.fa c.fr.length a.cf, .slice a.ga c.gr.length a.cg, .slice a.qa c.qu.length a.cq, .int .u64 (c.cn 0), .int .u64 (c.cn 1), .int .u64 (c.cn 2), .int .u64 (c.cn 3)] _ rfl

set_option maxHeartbeats 16000000 in
theorem looks_walk {s0 s1 s2 s3 s4 s5 er ec : Int} {ao : Option Addr} {m cap : Nat} {f : Nat → Int} {c : Cv} {w : World} (hS : Sees w w.heap.size ao m f) (hN : ao = none → m = 0 ∧ cap = 0) (hb1 : (m + 1) * 8 ≤ 140737488355328) (hc : c.Ok) (hna : c.na ≤ 70000)
    (LR : ∀ w1, Below w.heap.size w w1 → Calls Try.prog 8 #[.agg #[.int .i64 s0, .int .i64 s1, .int .i64 s2, .int .i64 s3, .int .i64 s4, .int .i64 s5], .slice ao m cap] w1 fun e w' => (∃ a, e = .returned (.tuple #[vl c a, .int .i64 er]) ∧ Hid (Owns w' w1.heap.size c a)) ∧ Below w1.heap.size w1 w')
    (LV : ∀ (w1 : World) (g c2 : Nat), m < c2 → Sees w1 w1.heap.size (some ⟨g, 0, none⟩) m f → Calls Try.prog 9 #[.agg #[.int .i64 s0, .int .i64 s1, .int .i64 s2, .int .i64 s3, .int .i64 s4, .int .i64 s5], .slice (some ⟨g, 0, none⟩) m c2] w1 fun e w' => (∃ a, e = .returned (.tuple #[vl c a, .int .i64 er]) ∧ Hid (Owns w' w1.heap.size c a)) ∧ Below w1.heap.size w1 w')
    (CV : ∀ (w1 : World) (g c2 : Nat), m < c2 → Sees w1 w1.heap.size (some ⟨g, 0, none⟩) m f → Calls Try.prog 11 #[.agg #[.int .i64 s0, .int .i64 s1, .int .i64 s2, .int .i64 s3, .int .i64 s4, .int .i64 s5], .slice (some ⟨g, 0, none⟩) m c2] w1 fun e w' => e = .returned (.int .i64 ec) ∧ Below w1.heap.size w1 w')
    (CR : ∀ w1, Below w.heap.size w w1 → Calls Try.prog 12 #[.agg #[.int .i64 s0, .int .i64 s1, .int .i64 s2, .int .i64 s3, .int .i64 s4, .int .i64 s5], .slice ao m cap] w1 fun e w' => e = .returned (.int .i64 ec) ∧ Below w1.heap.size w1 w') :
    Calls Try.prog 3 #[.agg #[.int .i64 s0, .int .i64 s1, .int .i64 s2, .int .i64 s3, .int .i64 s4, .int .i64 s5], .slice ao m cap] w fun e w' => e = .returned (.bool true) ∧ Below w.heap.size w w' := by
  have HS := hide hS
  have HN := hide hN
  have HC := hide hc
  have LR := hide LR
  have LV := hide LV
  have CV := hide CV
  have CR := hide CR
  clear hS hN hc
  obtain ⟨W0, hW0, B0, K⟩ := box w s0 s1 s2 s3 s4 s5
  have HB := hide B0
  have l0 : w.heap.size < W0.heap.size := (K.out W0 (Below.refl _ _)).2.1
  clear B0
  go_enter Try.func3, Try.ntmps3
  go_upto_region 3 with (go_at_call 6; refine (awake_ok _).mono ?_; rintro e w1 ⟨rfl, hb⟩; have HB1 := hide hb; clear hb)
  have HK1 := hide (HB.out.trans (HB1.out.mono HB.out.size))
  have S1 := hide (sees_on HS.out HK1.out)
  have LE := hide (lent_ok S1.out HN.out hb1)
  go_upto_region 4 with (go_at_call 7; refine LE.out.mono ?_; rintro e w2 ⟨⟨g2, c2, rfl, hc2, HL2⟩, hb⟩; have HB2 := hide (HB1.out.trans (hb.mono HB1.out.size)); clear hb)
  have HK2 := hide (HB.out.trans (HB2.out.mono HB.out.size))
  have hg2 : g2 < w2.heap.size := (HL2.out.lt g2 rfl).2
  obtain ⟨-, l2, x0, x1, x2, x3, x4, x5⟩ := K.out w2 HB2.out
  have LR2 := hide (LR.out w2 HK2.out)
  simp only [vl] at LR2
  clear S1 LE
  go_upto_region 5 with (go_at_call 8; refine LR2.out.mono ?_; rintro e w3 ⟨⟨a3, rfl, HO3⟩, hb⟩; have HB3 := hide hb; have h23 := hb.size; clear hb)
  obtain ⟨W3, hW3⟩ : ∃ W, w3.alloc (.cells #[.int .i64 c.ph, .int .i64 c.co, .int .u64 c.ro, .slice a3.aa c.na a3.ca, .slice a3.ra c.nr a3.cr, .slice a3.wa c.nw a3.cw, .slice a3.oa c.no a3.cb, .slice a3.fa c.fr.length a3.cf, .slice a3.ga c.gr.length a3.cg, .slice a3.qa c.qu.length a3.cq, .int .u64 (c.cn 0), .int .u64 (c.cn 1), .int .u64 (c.cn 2), .int .u64 (c.cn 3)] 33) = W := ⟨_, rfl⟩
  have R3 := hide (show W3.rowIs w3.heap.size 33 14 (lrow [.int .i64 c.ph, .int .i64 c.co, .int .u64 c.ro, .slice a3.aa c.na a3.ca, .slice a3.ra c.nr a3.cr, .slice a3.wa c.nw a3.cw, .slice a3.oa c.no a3.cb, .slice a3.fa c.fr.length a3.cf, .slice a3.ga c.gr.length a3.cg, .slice a3.qa c.qu.length a3.cq, .int .u64 (c.cn 0), .int .u64 (c.cn 1), .int .u64 (c.cn 2), .int .u64 (c.cn 3)]) by rw [← hW3]; exact vrow w3 c a3)
  have hb3a : Below w3.heap.size w3 W3 := by rw [← hW3]; exact (Below.refl _ _).alloc (Nat.le_refl _) _
  have O3 := hide (HO3.out.below hb3a)
  have HB3 := hide (HB3.out.trans (hb3a.mono HB3.out.size))
  have L3 := hide (owns_on HL2.out HB3.out)
  have LV3 := hide (LV.out W3 g2 c2 hc2 (lent_sees L3.out))
  simp only [vl] at LV3
  obtain ⟨-, -, y0, y1, y2, y3, y4, y5⟩ := K.out W3 (HB2.out.trans (HB3.out.mono HB2.out.size))
  try simp only [hW3]
  clear hW3 x0 x1 x2 x3 x4 x5 LR2 HO3 hb3a
  go_upto_region 6 with (go_at_call 9; refine LV3.out.mono ?_; rintro e w4 ⟨⟨a4, rfl, HO4⟩, hb⟩; have HB4 := hide hb; have h34 := hb.size; clear hb)
  obtain ⟨W4, hW4⟩ : ∃ W, w4.alloc (.cells #[.int .i64 c.ph, .int .i64 c.co, .int .u64 c.ro, .slice a4.aa c.na a4.ca, .slice a4.ra c.nr a4.cr, .slice a4.wa c.nw a4.cw, .slice a4.oa c.no a4.cb, .slice a4.fa c.fr.length a4.cf, .slice a4.ga c.gr.length a4.cg, .slice a4.qa c.qu.length a4.cq, .int .u64 (c.cn 0), .int .u64 (c.cn 1), .int .u64 (c.cn 2), .int .u64 (c.cn 3)] 33) = W := ⟨_, rfl⟩
  have R4 := hide (show W4.rowIs w4.heap.size 33 14 (lrow [.int .i64 c.ph, .int .i64 c.co, .int .u64 c.ro, .slice a4.aa c.na a4.ca, .slice a4.ra c.nr a4.cr, .slice a4.wa c.nw a4.cw, .slice a4.oa c.no a4.cb, .slice a4.fa c.fr.length a4.cf, .slice a4.ga c.gr.length a4.cg, .slice a4.qa c.qu.length a4.cq, .int .u64 (c.cn 0), .int .u64 (c.cn 1), .int .u64 (c.cn 2), .int .u64 (c.cn 3)]) by rw [← hW4]; exact vrow w4 c a4)
  have hb4a : Below w4.heap.size w4 W4 := by rw [← hW4]; exact (Below.refl _ _).alloc (Nat.le_refl _) _
  have O4 := hide (HO4.out.below hb4a)
  have HB4 := hide (HB4.out.trans (hb4a.mono HB4.out.size))
  have l4w : w4.heap.size < W4.heap.size := R4.out.lt
  have L4 := hide (owns_on L3.out HB4.out)
  have LV4 := hide (LV.out W4 g2 c2 hc2 (lent_sees L4.out))
  simp only [vl] at LV4
  have HB24 := hide (HB3.out.trans (HB4.out.mono HB3.out.size))
  have z0 := (K.out W4 (HB2.out.trans (HB24.out.mono HB2.out.size))).2.2
  obtain ⟨x0, x1, x2, x3, x4, x5⟩ := z0
  try simp only [hW4]
  clear hW4 y0 y1 y2 y3 y4 y5 LV3 HO4 hb4a
  go_upto_region 7 with (go_at_call 9; refine LV4.out.mono ?_; rintro e w5 ⟨⟨a5, rfl, HO5⟩, hb⟩; have HB5 := hide hb; have h45 := hb.size; clear hb)
  obtain ⟨W5, hW5⟩ : ∃ W, w5.alloc (.cells #[.int .i64 c.ph, .int .i64 c.co, .int .u64 c.ro, .slice a5.aa c.na a5.ca, .slice a5.ra c.nr a5.cr, .slice a5.wa c.nw a5.cw, .slice a5.oa c.no a5.cb, .slice a5.fa c.fr.length a5.cf, .slice a5.ga c.gr.length a5.cg, .slice a5.qa c.qu.length a5.cq, .int .u64 (c.cn 0), .int .u64 (c.cn 1), .int .u64 (c.cn 2), .int .u64 (c.cn 3)] 33) = W := ⟨_, rfl⟩
  have R5 := hide (show W5.rowIs w5.heap.size 33 14 (lrow [.int .i64 c.ph, .int .i64 c.co, .int .u64 c.ro, .slice a5.aa c.na a5.ca, .slice a5.ra c.nr a5.cr, .slice a5.wa c.nw a5.cw, .slice a5.oa c.no a5.cb, .slice a5.fa c.fr.length a5.cf, .slice a5.ga c.gr.length a5.cg, .slice a5.qa c.qu.length a5.cq, .int .u64 (c.cn 0), .int .u64 (c.cn 1), .int .u64 (c.cn 2), .int .u64 (c.cn 3)]) by rw [← hW5]; exact vrow w5 c a5)
  have hb5a : Below w5.heap.size w5 W5 := by rw [← hW5]; exact (Below.refl _ _).alloc (Nat.le_refl _) _
  have O5 := hide (HO5.out.below hb5a)
  have HB5 := hide (HB5.out.trans (hb5a.mono HB5.out.size))
  have l5w : w5.heap.size < W5.heap.size := R5.out.lt
  have L5 := hide (owns_on L4.out HB5.out)
  have R4 := hide (row_on R4.out HB5.out)
  have O3a := O3
  have L3a := L3
  have R3a := R3
  have R5a := R5
  have O5a := O5
  have O3 := hide (O3.out.below (HB4.out.trans (HB5.out.mono HB4.out.size)))
  have O4a := O4
  have R3 := hide (row_on R3a.out (HB4.out.trans (HB5.out.mono HB4.out.size)))
  have O4 := hide (O4.out.below HB5.out)
  have HB25 := hide (HB24.out.trans (HB5.out.mono HB24.out.size))
  have HBK := hide (HB2.out.trans (HB25.out.mono HB2.out.size))
  try simp only [hW5]
  clear hW5 x0 x1 x2 x3 x4 x5 LV4 HO5 hb5a L3 L4 HB24
  have SM := hide (fun (V : World) (hb : Below W5.heap.size W5 V) => same_ok (O4.out.below hb).shows (O3.out.below hb).shows HC.out hna)
  simp only [vl] at SM
  have CK := hide (fun (V : World) (hb : Below W5.heap.size W5 V) => CV.out V g2 c2 hc2 (lent_sees (owns_on L5.out hb)))
  have CQ := hide (fun (V : World) (hb : Below W5.heap.size W5 V) => CR.out V ((K.out V (HBK.out.trans (hb.mono HBK.out.size))).1))
  refine Lt.region (ks := [(0, 34), (1, 35), (2, 36), (3, 37), (4, 38), (5, 39), (6, 40), (7, 41), (8, 42), (9, 43), (10, 44), (11, 45), (12, 46), (13, 47), (14, 48), (15, 49), (16, 50), (17, 51), (18, 52), (19, 53), (20, 54), (21, 55), (22, 56)]) (vals := fun iv => match iv with
      | 0 => .int .i64 er
      | 1 => .int .i64 er
      | 2 => .bool false
      | 3 => .bool false
      | 4 => .int .i64 er
      | 5 => .int .i64 er
      | 6 => .bool false
      | 7 => .bool false
      | 8 => .bool false
      | 9 => .agg #[.int .i64 c.ph, .int .i64 c.co, .int .u64 c.ro, .slice a4.aa c.na a4.ca, .slice a4.ra c.nr a4.cr, .slice a4.wa c.nw a4.cw, .slice a4.oa c.no a4.cb, .slice a4.fa c.fr.length a4.cf, .slice a4.ga c.gr.length a4.cg, .slice a4.qa c.qu.length a4.cq, .int .u64 (c.cn 0), .int .u64 (c.cn 1), .int .u64 (c.cn 2), .int .u64 (c.cn 3)]
      | 10 => .agg #[.int .i64 c.ph, .int .i64 c.co, .int .u64 c.ro, .slice a3.aa c.na a3.ca, .slice a3.ra c.nr a3.cr, .slice a3.wa c.nw a3.cw, .slice a3.oa c.no a3.cb, .slice a3.fa c.fr.length a3.cf, .slice a3.ga c.gr.length a3.cg, .slice a3.qa c.qu.length a3.cq, .int .u64 (c.cn 0), .int .u64 (c.cn 1), .int .u64 (c.cn 2), .int .u64 (c.cn 3)]
      | 11 => .bool true
      | 12 => .bool false
      | 13 => .bool false
      | 14 => .bool false
      | 15 => .agg #[.int .i64 s0, .int .i64 s1, .int .i64 s2, .int .i64 s3, .int .i64 s4, .int .i64 s5]
      | 16 => .slice (some ⟨g2, 0, none⟩) m c2
      | 17 => .int .i64 ec
      | 18 => .agg #[.int .i64 s0, .int .i64 s1, .int .i64 s2, .int .i64 s3, .int .i64 s4, .int .i64 s5]
      | 19 => .slice ao m cap
      | 20 => .int .i64 ec
      | 21 => .bool false
      | 22 => .bool false
      | _ => undef) (WI := fun w' => Below W5.heap.size W5 w') (by kernel_rfl) ?bk rfl ?dd (⟨rfl, rfl, rfl, Nat.le_refl _, fun _ _ => rfl⟩) ?does ?fin
  case bk =>
    intro iq oq ho
    have hiq : iq < 23 := by have := (Array.getElem?_eq_some_iff.1 ho).1; simpa using this
    match iq, hiq with
    | 0, _ | 1, _ | 2, _ | 3, _ | 4, _ | 5, _ | 6, _ | 7, _ | 8, _ | 9, _ | 10, _ | 11, _ | 12, _ | 13, _ | 14, _ | 15, _ | 16, _ | 17, _ | 18, _ | 19, _ | 20, _ | 21, _ | 22, _ => injection ho with ho; subst ho; simp [Region.binds]
  case dd =>
    intro k hk
    have hk' : k < 67 := by
      simp [Lt.D] at hk
      omega
    simpa using hk'
  case does =>
    intro iq oq ho
    have hiq : iq < 23 := by have := (Array.getElem?_eq_some_iff.1 ho).1; simpa using this
    match iq, hiq with
    | 0, _ => injection ho with ho; subst ho; exact Lt.Does.read rfl (fun Lq aq w' hI hq => Lt.wn0 rfl) (fun Lq aq w' hI hq => Lt.ex_move rfl (hI.fix 9 (Lt.notD rfl)))
    | 1, _ => injection ho with ho; subst ho; exact Lt.Does.read rfl (fun Lq aq w' hI hq => Lt.wn0 rfl) (fun Lq aq w' hI hq => Lt.ex_move rfl (hI.fix 7 (Lt.notD rfl)))
    | 2, _ => injection ho with ho; subst ho; exact Lt.Does.read rfl (fun Lq aq w' hI hq => Lt.wn0 rfl) (fun Lq aq w' hI hq => ex_neqI rfl rfl (hI.pure 0 _ _ rfl (hq ⟨0, .data⟩ (by simp) rfl)) (hI.pure 1 _ _ rfl (hq ⟨1, .data⟩ (by simp) rfl)) (by simp))
    | 3, _ => injection ho with ho; subst ho; exact Lt.Does.read rfl (fun Lq aq w' hI hq => Lt.wn0 rfl) (fun Lq aq w' hI hq => Lt.ex_move rfl (hI.pure 2 _ _ rfl (hq ⟨2, .data⟩ (by simp) rfl)))
    | 4, _ => injection ho with ho; subst ho; exact Lt.Does.read rfl (fun Lq aq w' hI hq => Lt.wnG (d := 37) (c := false) rfl rfl (hI.pure 3 _ _ rfl (hq ⟨3, .guard⟩ (by simp) rfl)) rfl) (fun Lq aq w' hI hq => Lt.ex_move rfl (hI.fix 11 (Lt.notD rfl)))
    | 5, _ => injection ho with ho; subst ho; exact Lt.Does.read rfl (fun Lq aq w' hI hq => Lt.wnG (d := 37) (c := false) rfl rfl (hI.pure 3 _ _ rfl (hq ⟨3, .guard⟩ (by simp) rfl)) rfl) (fun Lq aq w' hI hq => Lt.ex_move rfl (hI.fix 7 (Lt.notD rfl)))
    | 6, _ => injection ho with ho; subst ho; exact Lt.Does.read rfl (fun Lq aq w' hI hq => Lt.wnG (d := 37) (c := false) rfl rfl (hI.pure 3 _ _ rfl (hq ⟨3, .guard⟩ (by simp) rfl)) rfl) (fun Lq aq w' hI hq => ex_neqI rfl rfl (hI.pure 4 _ _ rfl (hq ⟨4, .data⟩ (by simp) rfl)) (hI.pure 5 _ _ rfl (hq ⟨5, .data⟩ (by simp) rfl)) (by simp))
    | 7, _ => injection ho with ho; subst ho; exact Lt.Does.read rfl (fun Lq aq w' hI hq => Lt.wn0 rfl) (fun Lq aq w' hI hq => Lt.ex_pick (b := false) rfl (hI.pure 3 _ _ rfl (hq ⟨3, .data⟩ (by simp) rfl)) (by first | exact (hI.pure 6 _ _ rfl (hq ⟨6, .data⟩ (by simp) rfl)) | simpa using (hI.pure 6 _ _ rfl (hq ⟨6, .data⟩ (by simp) rfl))))
    | 8, _ => injection ho with ho; subst ho; exact Lt.Does.read rfl (fun Lq aq w' hI hq => Lt.wn0 rfl) (fun Lq aq w' hI hq => Lt.ex_move rfl (hI.pure 7 _ _ rfl (hq ⟨7, .data⟩ (by simp) rfl)))
    | 9, _ => injection ho with ho; subst ho; exact Lt.Does.read rfl (fun Lq aq w' hI hq => Lt.wnG (d := 42) (c := false) rfl rfl (hI.pure 8 _ _ rfl (hq ⟨8, .guard⟩ (by simp) rfl)) rfl) (fun Lq aq w' hI hq => Lt.ex_load_row rfl (hI.fix 8 (Lt.notD rfl)) (rngL (row_on R4.out hI.world) rfl) (by kernel_rfl) (by kernel_rfl))
    | 10, _ => injection ho with ho; subst ho; exact Lt.Does.read rfl (fun Lq aq w' hI hq => Lt.wnG (d := 42) (c := false) rfl rfl (hI.pure 8 _ _ rfl (hq ⟨8, .guard⟩ (by simp) rfl)) rfl) (fun Lq aq w' hI hq => Lt.ex_load_row rfl (hI.fix 6 (Lt.notD rfl)) (rngL (row_on R3.out hI.world) rfl) (by kernel_rfl) (by kernel_rfl))
    | 11, _ => injection ho with ho; subst ho; exact Lt.Does.call rfl (fun Lq aq w' hI hq => Lt.wnG (d := 42) (c := false) rfl rfl (hI.pure 8 _ _ rfl (hq ⟨8, .guard⟩ (by simp) rfl)) rfl) (fun Lq aq w' hI hq => Lt.call2 rfl (hI.pure 9 _ _ rfl (hq ⟨9, .data⟩ (by simp) rfl)) (hI.pure 10 _ _ rfl (hq ⟨10, .data⟩ (by simp) rfl)) rfl (by simp [go_sem])) (fun w1 hw1 => (SM.out w1 hw1).mono (by rintro e w2 ⟨rfl, hb⟩; exact ⟨rfl, hw1.trans (hb.mono hw1.size)⟩))
    | 12, _ => injection ho with ho; subst ho; exact Lt.Does.read rfl (fun Lq aq w' hI hq => Lt.wnG (d := 42) (c := false) rfl rfl (hI.pure 8 _ _ rfl (hq ⟨8, .guard⟩ (by simp) rfl)) rfl) (fun Lq aq w' hI hq => ex_not rfl (hI.pure 11 _ _ rfl (hq ⟨11, .data⟩ (by simp) rfl)))
    | 13, _ => injection ho with ho; subst ho; exact Lt.Does.read rfl (fun Lq aq w' hI hq => Lt.wn0 rfl) (fun Lq aq w' hI hq => Lt.ex_pick (b := false) rfl (hI.pure 8 _ _ rfl (hq ⟨8, .data⟩ (by simp) rfl)) (by first | exact (hI.pure 12 _ _ rfl (hq ⟨12, .data⟩ (by simp) rfl)) | simpa using (hI.pure 12 _ _ rfl (hq ⟨12, .data⟩ (by simp) rfl))))
    | 14, _ => injection ho with ho; subst ho; exact Lt.Does.read rfl (fun Lq aq w' hI hq => Lt.wn0 rfl) (fun Lq aq w' hI hq => Lt.ex_move rfl (hI.pure 13 _ _ rfl (hq ⟨13, .data⟩ (by simp) rfl)))
    | 15, _ => injection ho with ho; subst ho; exact Lt.Does.read rfl (fun Lq aq w' hI hq => Lt.wnG (d := 48) (c := false) rfl rfl (hI.pure 14 _ _ rfl (hq ⟨14, .guard⟩ (by simp) rfl)) rfl) (fun Lq aq w' hI hq => Lt.ex_load_row rfl (hI.fix 2 (Lt.notD rfl)) (by obtain ⟨q0, q1, q2, q3, q4, q5⟩ := (K.out w' (HBK.out.trans (hI.world.mono HBK.out.size))).2.2; exact rng6 q0 q1 q2 q3 q4 q5) (by kernel_rfl) (by kernel_rfl))
    | 16, _ => injection ho with ho; subst ho; exact Lt.Does.read rfl (fun Lq aq w' hI hq => Lt.wnG (d := 48) (c := false) rfl rfl (hI.pure 14 _ _ rfl (hq ⟨14, .guard⟩ (by simp) rfl)) rfl) (fun Lq aq w' hI hq => Lt.ex_move rfl (hI.fix 5 (Lt.notD rfl)))
    | 17, _ => injection ho with ho; subst ho; exact Lt.Does.call rfl (fun Lq aq w' hI hq => Lt.wnG (d := 48) (c := false) rfl rfl (hI.pure 14 _ _ rfl (hq ⟨14, .guard⟩ (by simp) rfl)) rfl) (fun Lq aq w' hI hq => Lt.call2 rfl (hI.pure 15 _ _ rfl (hq ⟨15, .data⟩ (by simp) rfl)) (hI.pure 16 _ _ rfl (hq ⟨16, .data⟩ (by simp) rfl)) rfl (by simp [go_sem])) (fun w1 hw1 => (CK.out w1 hw1).mono (by rintro e w2 ⟨rfl, hb⟩; exact ⟨rfl, hw1.trans (hb.mono hw1.size)⟩))
    | 18, _ => injection ho with ho; subst ho; exact Lt.Does.read rfl (fun Lq aq w' hI hq => Lt.wnG (d := 48) (c := false) rfl rfl (hI.pure 14 _ _ rfl (hq ⟨14, .guard⟩ (by simp) rfl)) rfl) (fun Lq aq w' hI hq => Lt.ex_load_row rfl (hI.fix 2 (Lt.notD rfl)) (by obtain ⟨q0, q1, q2, q3, q4, q5⟩ := (K.out w' (HBK.out.trans (hI.world.mono HBK.out.size))).2.2; exact rng6 q0 q1 q2 q3 q4 q5) (by kernel_rfl) (by kernel_rfl))
    | 19, _ => injection ho with ho; subst ho; exact Lt.Does.read rfl (fun Lq aq w' hI hq => Lt.wnG (d := 48) (c := false) rfl rfl (hI.pure 14 _ _ rfl (hq ⟨14, .guard⟩ (by simp) rfl)) rfl) (fun Lq aq w' hI hq => Lt.ex_move rfl (hI.fix 1 (Lt.notD rfl)))
    | 20, _ => injection ho with ho; subst ho; exact Lt.Does.call rfl (fun Lq aq w' hI hq => Lt.wnG (d := 48) (c := false) rfl rfl (hI.pure 14 _ _ rfl (hq ⟨14, .guard⟩ (by simp) rfl)) rfl) (fun Lq aq w' hI hq => Lt.call2 rfl (hI.pure 18 _ _ rfl (hq ⟨18, .data⟩ (by simp) rfl)) (hI.pure 19 _ _ rfl (hq ⟨19, .data⟩ (by simp) rfl)) rfl (by simp [go_sem])) (fun w1 hw1 => (CQ.out w1 hw1).mono (by rintro e w2 ⟨rfl, hb⟩; exact ⟨rfl, hw1.trans (hb.mono hw1.size)⟩))
    | 21, _ => injection ho with ho; subst ho; exact Lt.Does.read rfl (fun Lq aq w' hI hq => Lt.wnG (d := 48) (c := false) rfl rfl (hI.pure 14 _ _ rfl (hq ⟨14, .guard⟩ (by simp) rfl)) rfl) (fun Lq aq w' hI hq => ex_neqI rfl rfl (hI.pure 17 _ _ rfl (hq ⟨17, .data⟩ (by simp) rfl)) (hI.pure 20 _ _ rfl (hq ⟨20, .data⟩ (by simp) rfl)) (by simp))
    | 22, _ => injection ho with ho; subst ho; exact Lt.Does.read rfl (fun Lq aq w' hI hq => Lt.wn0 rfl) (fun Lq aq w' hI hq => Lt.ex_pick (b := false) rfl (hI.pure 14 _ _ rfl (hq ⟨14, .data⟩ (by simp) rfl)) (by first | exact (hI.pure 21 _ _ rfl (hq ⟨21, .data⟩ (by simp) rfl)) | simpa using (hI.pure 21 _ _ rfl (hq ⟨21, .data⟩ (by simp) rfl))))
  case fin =>
    intro Lq a' w' hI hall
    have HF := hide hI.world
    have hfr := lt_frame hI [34, 35, 36, 37, 38, 39, 40, 41, 42, 43, 44, 45, 46, 47, 48, 49, 50, 51, 52, 53, 54, 55, 56] rfl (fun x hx => by simp at hx ⊢; omega)
    have e34 : a'.eval (.tmp 34) = _ := hI.pure 0 _ _ rfl (hall 0 (by decide))
    have e35 : a'.eval (.tmp 35) = _ := hI.pure 1 _ _ rfl (hall 1 (by decide))
    have e36 : a'.eval (.tmp 36) = _ := hI.pure 2 _ _ rfl (hall 2 (by decide))
    have e37 : a'.eval (.tmp 37) = _ := hI.pure 3 _ _ rfl (hall 3 (by decide))
    have e38 : a'.eval (.tmp 38) = _ := hI.pure 4 _ _ rfl (hall 4 (by decide))
    have e39 : a'.eval (.tmp 39) = _ := hI.pure 5 _ _ rfl (hall 5 (by decide))
    have e40 : a'.eval (.tmp 40) = _ := hI.pure 6 _ _ rfl (hall 6 (by decide))
    have e41 : a'.eval (.tmp 41) = _ := hI.pure 7 _ _ rfl (hall 7 (by decide))
    have e42 : a'.eval (.tmp 42) = _ := hI.pure 8 _ _ rfl (hall 8 (by decide))
    have e43 : a'.eval (.tmp 43) = _ := hI.pure 9 _ _ rfl (hall 9 (by decide))
    have e44 : a'.eval (.tmp 44) = _ := hI.pure 10 _ _ rfl (hall 10 (by decide))
    have e45 : a'.eval (.tmp 45) = _ := hI.pure 11 _ _ rfl (hall 11 (by decide))
    have e46 : a'.eval (.tmp 46) = _ := hI.pure 12 _ _ rfl (hall 12 (by decide))
    have e47 : a'.eval (.tmp 47) = _ := hI.pure 13 _ _ rfl (hall 13 (by decide))
    have e48 : a'.eval (.tmp 48) = _ := hI.pure 14 _ _ rfl (hall 14 (by decide))
    have e49 : a'.eval (.tmp 49) = _ := hI.pure 15 _ _ rfl (hall 15 (by decide))
    have e50 : a'.eval (.tmp 50) = _ := hI.pure 16 _ _ rfl (hall 16 (by decide))
    have e51 : a'.eval (.tmp 51) = _ := hI.pure 17 _ _ rfl (hall 17 (by decide))
    have e52 : a'.eval (.tmp 52) = _ := hI.pure 18 _ _ rfl (hall 18 (by decide))
    have e53 : a'.eval (.tmp 53) = _ := hI.pure 19 _ _ rfl (hall 19 (by decide))
    have e54 : a'.eval (.tmp 54) = _ := hI.pure 20 _ _ rfl (hall 20 (by decide))
    have e55 : a'.eval (.tmp 55) = _ := hI.pure 21 _ _ rfl (hall 21 (by decide))
    have e56 : a'.eval (.tmp 56) = _ := hI.pure 22 _ _ rfl (hall 22 (by decide))
    rw [hfr]
    simp only [LtH.lay, List.foldl, e34, e35, e36, e37, e38, e39, e40, e41, e42, e43, e44, e45, e46, e47, e48, e49, e50, e51, e52, e53, e54, e55, e56]
    clear hfr hI hall e34 e35 e36 e37 e38 e39 e40 e41 e42 e43 e44 e45 e46 e47 e48 e49 e50 e51 e52 e53 e54 e55 e56
    simp only [Act.put, List.setIfInBounds_toArray, List.set_cons_succ, List.set_cons_zero]
    obtain ⟨V, hV⟩ : ∃ V : World, V = w' := ⟨_, rfl⟩
    subst hV
    have OV4 := hide (O4.out.below HF.out)
    have p0 := (row_on R4.out HF.out).cell (i := 0) (by decide)
    have p1 := (row_on R4.out HF.out).cell (i := 1) (by decide)
    have p2 := (row_on R4.out HF.out).cell (i := 2) (by decide)
    have p3 := (row_on R4.out HF.out).cell (i := 3) (by decide)
    have p4 := (row_on R4.out HF.out).cell (i := 4) (by decide)
    have p5 := (row_on R4.out HF.out).cell (i := 5) (by decide)
    have p6 := (row_on R4.out HF.out).cell (i := 6) (by decide)
    have p7 := (row_on R4.out HF.out).cell (i := 7) (by decide)
    have p8 := (row_on R4.out HF.out).cell (i := 8) (by decide)
    have p9 := (row_on R4.out HF.out).cell (i := 9) (by decide)
    have p10 := (row_on R4.out HF.out).cell (i := 10) (by decide)
    have p11 := (row_on R4.out HF.out).cell (i := 11) (by decide)
    have p12 := (row_on R4.out HF.out).cell (i := 12) (by decide)
    have p13 := (row_on R4.out HF.out).cell (i := 13) (by decide)
    simp only [lrow] at p0 p1 p2 p3 p4 p5 p6 p7 p8 p9 p10 p11 p12 p13
    have SPO := hide (spoil_ok (w := V) (V := W4) (lo := W3.heap.size) (a := a4) O4a.out (HB5.out.trans (HF.out.mono HB5.out.size)) (Szs.of HC.out hna) (by omega))
    simp only [vl] at SPO
    go_upto_region 10 with (go_at_call 13; refine SPO.out.mono ?_; rintro e w8 ⟨⟨u8, rfl⟩, hov⟩; have HOV := hide hov; clear hov)
    have H3V : Below W3.heap.size W3 V := HB4.out.trans ((HB5.out.trans (HF.out.mono HB5.out.size)).mono HB4.out.size)
    have H38 := hide (H3V.trans HOV.out.b)
    have HV5 : W5.heap.size ≤ V.heap.size := HF.out.size
    have R58 := hide (show w8.rowIs w5.heap.size 33 14 _ from (row_on R5a.out HF.out).of_block (HOV.out.same _ (by omega) (by omega)))
    have R38 := hide (row_on R3a.out H38.out)
    have O58 := hide ((O5a.out.below HF.out).keep (w' := w8) (fun b h1 h2 => HOV.out.same b h2 h1))
    have O38 := hide (O3a.out.below H38.out)
    have L38 := hide (owns_on L3a.out H38.out)
    have HW8 := hide (HK2.out.trans ((HB3.out.trans (H38.out.mono HB3.out.size)).mono HK2.out.size))
    have SM8 := hide (same_ok O58.out.shows O38.out.shows HC.out hna)
    simp only [vl] at SM8
    have q0 := R58.out.cell (i := 0) (by decide)
    have q1 := R58.out.cell (i := 1) (by decide)
    have q2 := R58.out.cell (i := 2) (by decide)
    have q3 := R58.out.cell (i := 3) (by decide)
    have q4 := R58.out.cell (i := 4) (by decide)
    have q5 := R58.out.cell (i := 5) (by decide)
    have q6 := R58.out.cell (i := 6) (by decide)
    have q7 := R58.out.cell (i := 7) (by decide)
    have q8 := R58.out.cell (i := 8) (by decide)
    have q9 := R58.out.cell (i := 9) (by decide)
    have q10 := R58.out.cell (i := 10) (by decide)
    have q11 := R58.out.cell (i := 11) (by decide)
    have q12 := R58.out.cell (i := 12) (by decide)
    have q13 := R58.out.cell (i := 13) (by decide)
    simp only [lrow] at q0 q1 q2 q3 q4 q5 q6 q7 q8 q9 q10 q11 q12 q13
    have r0 := R38.out.cell (i := 0) (by decide)
    have r1 := R38.out.cell (i := 1) (by decide)
    have r2 := R38.out.cell (i := 2) (by decide)
    have r3 := R38.out.cell (i := 3) (by decide)
    have r4 := R38.out.cell (i := 4) (by decide)
    have r5 := R38.out.cell (i := 5) (by decide)
    have r6 := R38.out.cell (i := 6) (by decide)
    have r7 := R38.out.cell (i := 7) (by decide)
    have r8 := R38.out.cell (i := 8) (by decide)
    have r9 := R38.out.cell (i := 9) (by decide)
    have r10 := R38.out.cell (i := 10) (by decide)
    have r11 := R38.out.cell (i := 11) (by decide)
    have r12 := R38.out.cell (i := 12) (by decide)
    have r13 := R38.out.cell (i := 13) (by decide)
    simp only [lrow] at r0 r1 r2 r3 r4 r5 r6 r7 r8 r9 r10 r11 r12 r13
    go_wp2_with (first
      | (go_at_call 10; refine SM8.out.mono ?_; rintro e w9 ⟨rfl, hb9⟩; have HB9 := hide hb9; clear hb9; have WH := hide (whole_ok (cap := cap) (owns_on L38.out HB9.out) hc2 hb1 (sees_on HS.out (HW8.out.trans (HB9.out.mono HW8.out.size)))))
      | (go_at_call 14; refine WH.out.mono ?_; rintro e v2 ⟨rfl, m2, rfl⟩))
    go_ret
    exact ⟨rfl, below_drewN (HW8.out.trans (HB9.out.mono HW8.out.size)) _⟩
end Vw
end Go.Proofs.Ytbffhfmhjnflbaa
