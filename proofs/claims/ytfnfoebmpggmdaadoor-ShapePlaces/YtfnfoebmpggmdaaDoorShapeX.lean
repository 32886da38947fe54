/-
  ShapePlaces: the law's own walk.
-/
import Derived.Test.YtfnfoebmpggmdaaDoorShapeY
import Derived.Test.YtfnfoebmpggmdaaDoorShapeT
namespace Go.Proofs.YtfnfoebmpggmdaaDoor
open Go.RowKit
set_option linter.unusedVariables false
set_option linter.unusedSimpArgs false
set_option linter.unnecessarySimpa false
set_option maxRecDepth 20000
namespace Shape

theorem Lt.ex_eqlI {ev : Operand → Value} {o : Oper} {w : World} {x y : Operand} {m : Int} (ho : o.op = .binOp .eql 3 x y 3) (hx : ev x = .int .i64 m) (hy : ev y = .int .i64 m) : (execOp ev o).run Tryd.prog w = .ok (.value (.bool true)) w := by
  simp [execOp, ho, hx, hy, go_sem]

set_option maxHeartbeats 8000000 in
theorem shapePlaces_walk {s0 s1 s2 s3 s4 s5 : Int} {w : World} (a b : Int) (TB : Tab w) : Calls Tryd.prog 3 #[.agg #[.int .i64 s0, .int .i64 s1, .int .i64 s2, .int .i64 s3, .int .i64 s4, .int .i64 s5], .int .i64 a, .int .i64 b] w fun e w' => e = .returned (.bool true) ∧ Below w.heap.size w w' := by
  have HT := hide TB
  clear TB
  obtain ⟨e_c, p_c, r_c⟩ := check_same (s0 := s0) (s1 := s1) (s2 := s2) (s3 := s3) (s4 := s4) (s5 := s5)
  have HPc := hide p_c
  have HRc := hide r_c
  clear p_c r_c
  obtain ⟨v_sz, e_sz, p_sz, r_sz⟩ := size_same (s0 := s0) (s1 := s1) (s2 := s2) (s3 := s3) (s4 := s4) (s5 := s5)
  have HP_sz := hide p_sz
  have HR_sz := hide r_sz
  clear p_sz r_sz
  obtain ⟨v_ak, e_ak, p_ak, r_ak⟩ := ack_same (s0 := s0) (s1 := s1) (s2 := s2) (s3 := s3) (s4 := s4) (s5 := s5) (a := a)
  have HP_ak := hide p_ak
  have HR_ak := hide r_ak
  clear p_ak r_ak
  obtain ⟨v_ro, e_ro, p_ro, r_ro⟩ := root_same (s0 := s0) (s1 := s1) (s2 := s2) (s3 := s3) (s4 := s4) (s5 := s5) (a := a) (b := b)
  have HP_ro := hide p_ro
  have HR_ro := hide r_ro
  clear p_ro r_ro
  obtain ⟨v_we, e_we, p_we, r_we⟩ := weak_same (s0 := s0) (s1 := s1) (s2 := s2) (s3 := s3) (s4 := s4) (s5 := s5) (a := a)
  have HP_we := hide p_we
  have HR_we := hide r_we
  clear p_we r_we
  obtain ⟨v_ob, e_ob, p_ob, r_ob⟩ := object_same (s0 := s0) (s1 := s1) (s2 := s2) (s3 := s3) (s4 := s4) (s5 := s5) (a := a)
  have HP_ob := hide p_ob
  have HR_ob := hide r_ob
  clear p_ob r_ob
  obtain ⟨v_sl, e_sl, p_sl, r_sl⟩ := slot_same (s0 := s0) (s1 := s1) (s2 := s2) (s3 := s3) (s4 := s4) (s5 := s5) (a := a) (b := b)
  have HP_sl := hide p_sl
  have HR_sl := hide r_sl
  clear p_sl r_sl
  obtain ⟨v_na, e_na, p_na, r_na⟩ := name_same (s0 := s0) (s1 := s1) (s2 := s2) (s3 := s3) (s4 := s4) (s5 := s5) (a := a)
  have HP_na := hide p_na
  have HR_na := hide r_na
  clear p_na r_na
  obtain ⟨W0, hW0, B0, K⟩ := box w s0 s1 s2 s3 s4 s5
  have HB := hide B0
  obtain ⟨-, l0, x0, x1, x2, x3, x4, x5⟩ := K.out W0 (Below.refl _ _)
  clear B0
  have AW := hide (awake_ok (HT.out.below HB.out HT.out.1))
  go_enter Tryd.func3, Tryd.ntmps3
  go_wp2_with (first
    | (go_at_call 6; refine AW.out.mono ?_; rintro e w1 ⟨rfl, hb1⟩; have HB1 := hide hb1; clear hb1; obtain ⟨-, m1, y1_0, y1_1, y1_2, y1_3, y1_4, y1_5⟩ := K.out w1 HB1.out)
    | (go_at_call 7; refine (HP_sz.out _).mono ?_; rintro e w2 ⟨rfl, hb2⟩; have HB2 := hide (HB1.out.trans (hb2.mono HB1.out.size)); clear hb2; obtain ⟨-, m2, y2_0, y2_1, y2_2, y2_3, y2_4, y2_5⟩ := K.out w2 HB2.out; clear m1 y1_0 y1_1 y1_2 y1_3 y1_4 y1_5)
    | (go_at_call 8; refine (HP_ak.out _).mono ?_; rintro e w3 ⟨rfl, hb3⟩; have HB3 := hide (HB2.out.trans (hb3.mono HB2.out.size)); clear hb3; obtain ⟨-, m3, y3_0, y3_1, y3_2, y3_3, y3_4, y3_5⟩ := K.out w3 HB3.out; clear m2 y2_0 y2_1 y2_2 y2_3 y2_4 y2_5)
    | (go_at_call 9; refine (HP_ro.out _).mono ?_; rintro e w4 ⟨rfl, hb4⟩; have HB4 := hide (HB3.out.trans (hb4.mono HB3.out.size)); clear hb4; obtain ⟨-, m4, y4_0, y4_1, y4_2, y4_3, y4_4, y4_5⟩ := K.out w4 HB4.out; clear m3 y3_0 y3_1 y3_2 y3_3 y3_4 y3_5)
    | (go_at_call 10; refine (HP_we.out _).mono ?_; rintro e w5 ⟨rfl, hb5⟩; have HB5 := hide (HB4.out.trans (hb5.mono HB4.out.size)); clear hb5; obtain ⟨-, m5, y5_0, y5_1, y5_2, y5_3, y5_4, y5_5⟩ := K.out w5 HB5.out; clear m4 y4_0 y4_1 y4_2 y4_3 y4_4 y4_5)
    | (go_at_call 11; refine (HP_ob.out _).mono ?_; rintro e w6 ⟨rfl, hb6⟩; have HB6 := hide (HB5.out.trans (hb6.mono HB5.out.size)); clear hb6; obtain ⟨-, m6, y6_0, y6_1, y6_2, y6_3, y6_4, y6_5⟩ := K.out w6 HB6.out; clear m5 y5_0 y5_1 y5_2 y5_3 y5_4 y5_5)
    | (go_at_call 12; refine (HP_sl.out _).mono ?_; rintro e w7 ⟨rfl, hb7⟩; have HB7 := hide (HB6.out.trans (hb7.mono HB6.out.size)); clear hb7; obtain ⟨-, m7, y7_0, y7_1, y7_2, y7_3, y7_4, y7_5⟩ := K.out w7 HB7.out; clear m6 y6_0 y6_1 y6_2 y6_3 y6_4 y6_5)
    | (go_at_call 13; refine (HP_na.out _ (HT.out.below (K.out _ HB7.out).1 HT.out.1)).mono ?_; rintro e w8 ⟨rfl, hb8⟩; have HB8 := hide (HB7.out.trans (hb8.mono HB7.out.size)); clear hb8; obtain ⟨-, m8, y8_0, y8_1, y8_2, y8_3, y8_4, y8_5⟩ := K.out w8 HB8.out; clear m7 y7_0 y7_1 y7_2 y7_3 y7_4 y7_5)
    | (go_at_call 14; refine (HR_sz.out _).mono ?_; rintro e w9 ⟨rfl, hb9⟩; have HB9 := hide (HB8.out.trans (hb9.mono HB8.out.size)); clear hb9; obtain ⟨-, m9, y9_0, y9_1, y9_2, y9_3, y9_4, y9_5⟩ := K.out w9 HB9.out; clear m8 y8_0 y8_1 y8_2 y8_3 y8_4 y8_5)
    | (go_at_call 15; refine (HR_ak.out _).mono ?_; rintro e w10 ⟨rfl, hb10⟩; have HB10 := hide (HB9.out.trans (hb10.mono HB9.out.size)); clear hb10; obtain ⟨-, m10, y10_0, y10_1, y10_2, y10_3, y10_4, y10_5⟩ := K.out w10 HB10.out; clear m9 y9_0 y9_1 y9_2 y9_3 y9_4 y9_5)
    | (go_at_call 16; refine (HR_ro.out _).mono ?_; rintro e w11 ⟨rfl, hb11⟩; have HB11 := hide (HB10.out.trans (hb11.mono HB10.out.size)); clear hb11; obtain ⟨-, m11, y11_0, y11_1, y11_2, y11_3, y11_4, y11_5⟩ := K.out w11 HB11.out; clear m10 y10_0 y10_1 y10_2 y10_3 y10_4 y10_5)
    | (go_at_call 17; refine (HR_we.out _).mono ?_; rintro e w12 ⟨rfl, hb12⟩; have HB12 := hide (HB11.out.trans (hb12.mono HB11.out.size)); clear hb12; obtain ⟨-, m12, y12_0, y12_1, y12_2, y12_3, y12_4, y12_5⟩ := K.out w12 HB12.out; clear m11 y11_0 y11_1 y11_2 y11_3 y11_4 y11_5)
    | (go_at_call 18; refine (HR_ob.out _).mono ?_; rintro e w13 ⟨rfl, hb13⟩; have HB13 := hide (HB12.out.trans (hb13.mono HB12.out.size)); clear hb13; obtain ⟨-, m13, y13_0, y13_1, y13_2, y13_3, y13_4, y13_5⟩ := K.out w13 HB13.out; clear m12 y12_0 y12_1 y12_2 y12_3 y12_4 y12_5)
    | (go_at_call 19; refine (HR_sl.out _).mono ?_; rintro e w14 ⟨rfl, hb14⟩; have HB14 := hide (HB13.out.trans (hb14.mono HB13.out.size)); clear hb14; obtain ⟨-, m14, y14_0, y14_1, y14_2, y14_3, y14_4, y14_5⟩ := K.out w14 HB14.out; clear m13 y13_0 y13_1 y13_2 y13_3 y13_4 y13_5)
    | (go_at_call 20; refine (HR_na.out _).mono ?_; rintro e w15 ⟨rfl, hb15⟩; have HB15 := hide (HB14.out.trans (hb15.mono HB14.out.size)); clear hb15; obtain ⟨-, m15, y15_0, y15_1, y15_2, y15_3, y15_4, y15_5⟩ := K.out w15 HB15.out; clear m14 y14_0 y14_1 y14_2 y14_3 y14_4 y14_5))
  refine Lt.region (ks := [(0, 156), (1, 157), (2, 158), (3, 159), (4, 160), (5, 161), (6, 162), (7, 163), (8, 164), (9, 165), (10, 166), (11, 167), (12, 168), (13, 169), (14, 170), (15, 171), (16, 172), (17, 173), (18, 174), (19, 175), (20, 176), (21, 177), (22, 178), (23, 179), (24, 180), (25, 181), (26, 182), (27, 183), (28, 184), (29, 185), (30, 186), (31, 187), (32, 188), (33, 189), (34, 190), (35, 191), (36, 192), (37, 193), (38, 194), (39, 195), (40, 6)]) (vals := fun iv => match iv with
      | 0 => .int .i64 e_sz
      | 1 => .int .i64 e_sz
      | 2 => .bool true
      | 3 => .bool true
      | 4 => .int .i64 e_ak
      | 5 => .int .i64 e_ak
      | 6 => .bool true
      | 7 => .bool true
      | 8 => .bool true
      | 9 => .int .i64 e_ro
      | 10 => .int .i64 e_ro
      | 11 => .bool true
      | 12 => .bool true
      | 13 => .bool true
      | 14 => .int .i64 e_we
      | 15 => .int .i64 e_we
      | 16 => .bool true
      | 17 => .bool true
      | 18 => .bool true
      | 19 => .int .i64 e_ob
      | 20 => .int .i64 e_ob
      | 21 => .bool true
      | 22 => .bool true
      | 23 => .bool true
      | 24 => .int .i64 e_sl
      | 25 => .int .i64 e_sl
      | 26 => .bool true
      | 27 => .bool true
      | 28 => .bool true
      | 29 => .int .i64 e_na
      | 30 => .int .i64 e_na
      | 31 => .bool true
      | 32 => .bool true
      | 33 => .bool true
      | 34 => .agg #[.int .i64 s0, .int .i64 s1, .int .i64 s2, .int .i64 s3, .int .i64 s4, .int .i64 s5]
      | 35 => .int .i64 e_c
      | 36 => .agg #[.int .i64 s0, .int .i64 s1, .int .i64 s2, .int .i64 s3, .int .i64 s4, .int .i64 s5]
      | 37 => .int .i64 e_c
      | 38 => .bool true
      | 39 => .bool true
      | 40 => .bool true
      | _ => undef) (WI := fun w' => Below W0.heap.size W0 w') (by kernel_rfl) ?bk rfl ?dd (⟨HB15.out.os, HB15.out.tape, HB15.out.output, HB15.out.size, HB15.out.block⟩) ?does ?fin
  case bk =>
    intro iq oq ho
    have hiq : iq < 41 := by have := (Array.getElem?_eq_some_iff.1 ho).1; simpa using this
    match iq, hiq with
    | 0, _ | 1, _ | 2, _ | 3, _ | 4, _ | 5, _ | 6, _ | 7, _ | 8, _ | 9, _ | 10, _ | 11, _ | 12, _ | 13, _ | 14, _ | 15, _ | 16, _ | 17, _ | 18, _ | 19, _ | 20, _ | 21, _ | 22, _ | 23, _ | 24, _ | 25, _ | 26, _ | 27, _ | 28, _ | 29, _ | 30, _ | 31, _ | 32, _ | 33, _ | 34, _ | 35, _ | 36, _ | 37, _ | 38, _ | 39, _ | 40, _ => injection ho with ho; subst ho; simp [Region.binds]
  case dd =>
    intro k hk
    have hk' : k < 196 := by
      simp [Lt.D] at hk
      omega
    simpa using hk'
  case does =>
    intro iq oq ho
    have hiq : iq < 41 := by have := (Array.getElem?_eq_some_iff.1 ho).1; simpa using this
    match iq, hiq with
    | 0, _ => injection ho with ho; subst ho; exact Lt.Does.read rfl (fun Lq aq w' hI hq => Lt.wn0 rfl) (fun Lq aq w' hI hq => Lt.ex_move rfl (hI.fix 8 (Lt.notD rfl)))
    | 1, _ => injection ho with ho; subst ho; exact Lt.Does.read rfl (fun Lq aq w' hI hq => Lt.wn0 rfl) (fun Lq aq w' hI hq => Lt.ex_move rfl (hI.fix 22 (Lt.notD rfl)))
    | 2, _ => injection ho with ho; subst ho; exact Lt.Does.read rfl (fun Lq aq w' hI hq => Lt.wn0 rfl) (fun Lq aq w' hI hq => Lt.ex_eqlI rfl (hI.pure 0 _ _ rfl (hq ⟨0, .data⟩ (by simp) rfl)) (hI.pure 1 _ _ rfl (hq ⟨1, .data⟩ (by simp) rfl)) )
    | 3, _ => injection ho with ho; subst ho; exact Lt.Does.read rfl (fun Lq aq w' hI hq => Lt.wn0 rfl) (fun Lq aq w' hI hq => Lt.ex_move rfl (hI.pure 2 _ _ rfl (hq ⟨2, .data⟩ (by simp) rfl)))
    | 4, _ => injection ho with ho; subst ho; exact Lt.Does.read rfl (fun Lq aq w' hI hq => Lt.wnG (d := 159) (c := true) rfl rfl (hI.pure 3 _ _ rfl (hq ⟨3, .guard⟩ (by simp) rfl)) rfl) (fun Lq aq w' hI hq => Lt.ex_move rfl (hI.fix 10 (Lt.notD rfl)))
    | 5, _ => injection ho with ho; subst ho; exact Lt.Does.read rfl (fun Lq aq w' hI hq => Lt.wnG (d := 159) (c := true) rfl rfl (hI.pure 3 _ _ rfl (hq ⟨3, .guard⟩ (by simp) rfl)) rfl) (fun Lq aq w' hI hq => Lt.ex_move rfl (hI.fix 24 (Lt.notD rfl)))
    | 6, _ => injection ho with ho; subst ho; exact Lt.Does.read rfl (fun Lq aq w' hI hq => Lt.wnG (d := 159) (c := true) rfl rfl (hI.pure 3 _ _ rfl (hq ⟨3, .guard⟩ (by simp) rfl)) rfl) (fun Lq aq w' hI hq => Lt.ex_eqlI rfl (hI.pure 4 _ _ rfl (hq ⟨4, .data⟩ (by simp) rfl)) (hI.pure 5 _ _ rfl (hq ⟨5, .data⟩ (by simp) rfl)) )
    | 7, _ => injection ho with ho; subst ho; exact Lt.Does.read rfl (fun Lq aq w' hI hq => Lt.wn0 rfl) (fun Lq aq w' hI hq => Lt.ex_pick (b := true) rfl (hI.pure 3 _ _ rfl (hq ⟨3, .data⟩ (by simp) rfl)) (by first | exact (hI.pure 6 _ _ rfl (hq ⟨6, .data⟩ (by simp) rfl)) | simpa using (hI.pure 6 _ _ rfl (hq ⟨6, .data⟩ (by simp) rfl))))
    | 8, _ => injection ho with ho; subst ho; exact Lt.Does.read rfl (fun Lq aq w' hI hq => Lt.wn0 rfl) (fun Lq aq w' hI hq => Lt.ex_move rfl (hI.pure 7 _ _ rfl (hq ⟨7, .data⟩ (by simp) rfl)))
    | 9, _ => injection ho with ho; subst ho; exact Lt.Does.read rfl (fun Lq aq w' hI hq => Lt.wnG (d := 164) (c := true) rfl rfl (hI.pure 8 _ _ rfl (hq ⟨8, .guard⟩ (by simp) rfl)) rfl) (fun Lq aq w' hI hq => Lt.ex_move rfl (hI.fix 12 (Lt.notD rfl)))
    | 10, _ => injection ho with ho; subst ho; exact Lt.Does.read rfl (fun Lq aq w' hI hq => Lt.wnG (d := 164) (c := true) rfl rfl (hI.pure 8 _ _ rfl (hq ⟨8, .guard⟩ (by simp) rfl)) rfl) (fun Lq aq w' hI hq => Lt.ex_move rfl (hI.fix 26 (Lt.notD rfl)))
    | 11, _ => injection ho with ho; subst ho; exact Lt.Does.read rfl (fun Lq aq w' hI hq => Lt.wnG (d := 164) (c := true) rfl rfl (hI.pure 8 _ _ rfl (hq ⟨8, .guard⟩ (by simp) rfl)) rfl) (fun Lq aq w' hI hq => Lt.ex_eqlI rfl (hI.pure 9 _ _ rfl (hq ⟨9, .data⟩ (by simp) rfl)) (hI.pure 10 _ _ rfl (hq ⟨10, .data⟩ (by simp) rfl)) )
    | 12, _ => injection ho with ho; subst ho; exact Lt.Does.read rfl (fun Lq aq w' hI hq => Lt.wn0 rfl) (fun Lq aq w' hI hq => Lt.ex_pick (b := true) rfl (hI.pure 8 _ _ rfl (hq ⟨8, .data⟩ (by simp) rfl)) (by first | exact (hI.pure 11 _ _ rfl (hq ⟨11, .data⟩ (by simp) rfl)) | simpa using (hI.pure 11 _ _ rfl (hq ⟨11, .data⟩ (by simp) rfl))))
    | 13, _ => injection ho with ho; subst ho; exact Lt.Does.read rfl (fun Lq aq w' hI hq => Lt.wn0 rfl) (fun Lq aq w' hI hq => Lt.ex_move rfl (hI.pure 12 _ _ rfl (hq ⟨12, .data⟩ (by simp) rfl)))
    | 14, _ => injection ho with ho; subst ho; exact Lt.Does.read rfl (fun Lq aq w' hI hq => Lt.wnG (d := 169) (c := true) rfl rfl (hI.pure 13 _ _ rfl (hq ⟨13, .guard⟩ (by simp) rfl)) rfl) (fun Lq aq w' hI hq => Lt.ex_move rfl (hI.fix 14 (Lt.notD rfl)))
    | 15, _ => injection ho with ho; subst ho; exact Lt.Does.read rfl (fun Lq aq w' hI hq => Lt.wnG (d := 169) (c := true) rfl rfl (hI.pure 13 _ _ rfl (hq ⟨13, .guard⟩ (by simp) rfl)) rfl) (fun Lq aq w' hI hq => Lt.ex_move rfl (hI.fix 28 (Lt.notD rfl)))
    | 16, _ => injection ho with ho; subst ho; exact Lt.Does.read rfl (fun Lq aq w' hI hq => Lt.wnG (d := 169) (c := true) rfl rfl (hI.pure 13 _ _ rfl (hq ⟨13, .guard⟩ (by simp) rfl)) rfl) (fun Lq aq w' hI hq => Lt.ex_eqlI rfl (hI.pure 14 _ _ rfl (hq ⟨14, .data⟩ (by simp) rfl)) (hI.pure 15 _ _ rfl (hq ⟨15, .data⟩ (by simp) rfl)) )
    | 17, _ => injection ho with ho; subst ho; exact Lt.Does.read rfl (fun Lq aq w' hI hq => Lt.wn0 rfl) (fun Lq aq w' hI hq => Lt.ex_pick (b := true) rfl (hI.pure 13 _ _ rfl (hq ⟨13, .data⟩ (by simp) rfl)) (by first | exact (hI.pure 16 _ _ rfl (hq ⟨16, .data⟩ (by simp) rfl)) | simpa using (hI.pure 16 _ _ rfl (hq ⟨16, .data⟩ (by simp) rfl))))
    | 18, _ => injection ho with ho; subst ho; exact Lt.Does.read rfl (fun Lq aq w' hI hq => Lt.wn0 rfl) (fun Lq aq w' hI hq => Lt.ex_move rfl (hI.pure 17 _ _ rfl (hq ⟨17, .data⟩ (by simp) rfl)))
    | 19, _ => injection ho with ho; subst ho; exact Lt.Does.read rfl (fun Lq aq w' hI hq => Lt.wnG (d := 174) (c := true) rfl rfl (hI.pure 18 _ _ rfl (hq ⟨18, .guard⟩ (by simp) rfl)) rfl) (fun Lq aq w' hI hq => Lt.ex_move rfl (hI.fix 16 (Lt.notD rfl)))
    | 20, _ => injection ho with ho; subst ho; exact Lt.Does.read rfl (fun Lq aq w' hI hq => Lt.wnG (d := 174) (c := true) rfl rfl (hI.pure 18 _ _ rfl (hq ⟨18, .guard⟩ (by simp) rfl)) rfl) (fun Lq aq w' hI hq => Lt.ex_move rfl (hI.fix 30 (Lt.notD rfl)))
    | 21, _ => injection ho with ho; subst ho; exact Lt.Does.read rfl (fun Lq aq w' hI hq => Lt.wnG (d := 174) (c := true) rfl rfl (hI.pure 18 _ _ rfl (hq ⟨18, .guard⟩ (by simp) rfl)) rfl) (fun Lq aq w' hI hq => Lt.ex_eqlI rfl (hI.pure 19 _ _ rfl (hq ⟨19, .data⟩ (by simp) rfl)) (hI.pure 20 _ _ rfl (hq ⟨20, .data⟩ (by simp) rfl)) )
    | 22, _ => injection ho with ho; subst ho; exact Lt.Does.read rfl (fun Lq aq w' hI hq => Lt.wn0 rfl) (fun Lq aq w' hI hq => Lt.ex_pick (b := true) rfl (hI.pure 18 _ _ rfl (hq ⟨18, .data⟩ (by simp) rfl)) (by first | exact (hI.pure 21 _ _ rfl (hq ⟨21, .data⟩ (by simp) rfl)) | simpa using (hI.pure 21 _ _ rfl (hq ⟨21, .data⟩ (by simp) rfl))))
    | 23, _ => injection ho with ho; subst ho; exact Lt.Does.read rfl (fun Lq aq w' hI hq => Lt.wn0 rfl) (fun Lq aq w' hI hq => Lt.ex_move rfl (hI.pure 22 _ _ rfl (hq ⟨22, .data⟩ (by simp) rfl)))
    | 24, _ => injection ho with ho; subst ho; exact Lt.Does.read rfl (fun Lq aq w' hI hq => Lt.wnG (d := 179) (c := true) rfl rfl (hI.pure 23 _ _ rfl (hq ⟨23, .guard⟩ (by simp) rfl)) rfl) (fun Lq aq w' hI hq => Lt.ex_move rfl (hI.fix 18 (Lt.notD rfl)))
    | 25, _ => injection ho with ho; subst ho; exact Lt.Does.read rfl (fun Lq aq w' hI hq => Lt.wnG (d := 179) (c := true) rfl rfl (hI.pure 23 _ _ rfl (hq ⟨23, .guard⟩ (by simp) rfl)) rfl) (fun Lq aq w' hI hq => Lt.ex_move rfl (hI.fix 32 (Lt.notD rfl)))
    | 26, _ => injection ho with ho; subst ho; exact Lt.Does.read rfl (fun Lq aq w' hI hq => Lt.wnG (d := 179) (c := true) rfl rfl (hI.pure 23 _ _ rfl (hq ⟨23, .guard⟩ (by simp) rfl)) rfl) (fun Lq aq w' hI hq => Lt.ex_eqlI rfl (hI.pure 24 _ _ rfl (hq ⟨24, .data⟩ (by simp) rfl)) (hI.pure 25 _ _ rfl (hq ⟨25, .data⟩ (by simp) rfl)) )
    | 27, _ => injection ho with ho; subst ho; exact Lt.Does.read rfl (fun Lq aq w' hI hq => Lt.wn0 rfl) (fun Lq aq w' hI hq => Lt.ex_pick (b := true) rfl (hI.pure 23 _ _ rfl (hq ⟨23, .data⟩ (by simp) rfl)) (by first | exact (hI.pure 26 _ _ rfl (hq ⟨26, .data⟩ (by simp) rfl)) | simpa using (hI.pure 26 _ _ rfl (hq ⟨26, .data⟩ (by simp) rfl))))
    | 28, _ => injection ho with ho; subst ho; exact Lt.Does.read rfl (fun Lq aq w' hI hq => Lt.wn0 rfl) (fun Lq aq w' hI hq => Lt.ex_move rfl (hI.pure 27 _ _ rfl (hq ⟨27, .data⟩ (by simp) rfl)))
    | 29, _ => injection ho with ho; subst ho; exact Lt.Does.read rfl (fun Lq aq w' hI hq => Lt.wnG (d := 184) (c := true) rfl rfl (hI.pure 28 _ _ rfl (hq ⟨28, .guard⟩ (by simp) rfl)) rfl) (fun Lq aq w' hI hq => Lt.ex_move rfl (hI.fix 20 (Lt.notD rfl)))
    | 30, _ => injection ho with ho; subst ho; exact Lt.Does.read rfl (fun Lq aq w' hI hq => Lt.wnG (d := 184) (c := true) rfl rfl (hI.pure 28 _ _ rfl (hq ⟨28, .guard⟩ (by simp) rfl)) rfl) (fun Lq aq w' hI hq => Lt.ex_move rfl (hI.fix 34 (Lt.notD rfl)))
    | 31, _ => injection ho with ho; subst ho; exact Lt.Does.read rfl (fun Lq aq w' hI hq => Lt.wnG (d := 184) (c := true) rfl rfl (hI.pure 28 _ _ rfl (hq ⟨28, .guard⟩ (by simp) rfl)) rfl) (fun Lq aq w' hI hq => Lt.ex_eqlI rfl (hI.pure 29 _ _ rfl (hq ⟨29, .data⟩ (by simp) rfl)) (hI.pure 30 _ _ rfl (hq ⟨30, .data⟩ (by simp) rfl)) )
    | 32, _ => injection ho with ho; subst ho; exact Lt.Does.read rfl (fun Lq aq w' hI hq => Lt.wn0 rfl) (fun Lq aq w' hI hq => Lt.ex_pick (b := true) rfl (hI.pure 28 _ _ rfl (hq ⟨28, .data⟩ (by simp) rfl)) (by first | exact (hI.pure 31 _ _ rfl (hq ⟨31, .data⟩ (by simp) rfl)) | simpa using (hI.pure 31 _ _ rfl (hq ⟨31, .data⟩ (by simp) rfl))))
    | 33, _ => injection ho with ho; subst ho; exact Lt.Does.read rfl (fun Lq aq w' hI hq => Lt.wn0 rfl) (fun Lq aq w' hI hq => Lt.ex_move rfl (hI.pure 32 _ _ rfl (hq ⟨32, .data⟩ (by simp) rfl)))
    | 34, _ => injection ho with ho; subst ho; exact Lt.Does.read rfl (fun Lq aq w' hI hq => Lt.wnG (d := 189) (c := true) rfl rfl (hI.pure 33 _ _ rfl (hq ⟨33, .guard⟩ (by simp) rfl)) rfl) (fun Lq aq w' hI hq => Lt.ex_load_row rfl (hI.fix 3 (Lt.notD rfl)) (by obtain ⟨-, -, y0, y1, y2, y3, y4, y5⟩ := K.out w' hI.world; exact rng y0 y1 y2 y3 y4 y5) (by kernel_rfl) (by kernel_rfl))
    | 35, _ => injection ho with ho; subst ho; exact Lt.Does.call rfl (fun Lq aq w' hI hq => Lt.wnG (d := 189) (c := true) rfl rfl (hI.pure 33 _ _ rfl (hq ⟨33, .guard⟩ (by simp) rfl)) rfl) (fun Lq aq w' hI hq => Lt.call1 rfl (hI.pure 34 _ _ rfl (hq ⟨34, .data⟩ (by simp) rfl)) rfl (by simp [go_sem])) (fun w1 hw1 => (HPc.out w1).mono (by rintro e w2 ⟨rfl, hb⟩; exact ⟨rfl, hw1.trans (hb.mono hw1.size)⟩))
    | 36, _ => injection ho with ho; subst ho; exact Lt.Does.read rfl (fun Lq aq w' hI hq => Lt.wnG (d := 189) (c := true) rfl rfl (hI.pure 33 _ _ rfl (hq ⟨33, .guard⟩ (by simp) rfl)) rfl) (fun Lq aq w' hI hq => Lt.ex_load_row rfl (hI.fix 3 (Lt.notD rfl)) (by obtain ⟨-, -, y0, y1, y2, y3, y4, y5⟩ := K.out w' hI.world; exact rng y0 y1 y2 y3 y4 y5) (by kernel_rfl) (by kernel_rfl))
    | 37, _ => injection ho with ho; subst ho; exact Lt.Does.call rfl (fun Lq aq w' hI hq => Lt.wnG (d := 189) (c := true) rfl rfl (hI.pure 33 _ _ rfl (hq ⟨33, .guard⟩ (by simp) rfl)) rfl) (fun Lq aq w' hI hq => Lt.call1 rfl (hI.pure 36 _ _ rfl (hq ⟨36, .data⟩ (by simp) rfl)) rfl (by simp [go_sem])) (fun w1 hw1 => (HRc.out w1).mono (by rintro e w2 ⟨rfl, hb⟩; exact ⟨rfl, hw1.trans (hb.mono hw1.size)⟩))
    | 38, _ => injection ho with ho; subst ho; exact Lt.Does.read rfl (fun Lq aq w' hI hq => Lt.wnG (d := 189) (c := true) rfl rfl (hI.pure 33 _ _ rfl (hq ⟨33, .guard⟩ (by simp) rfl)) rfl) (fun Lq aq w' hI hq => Lt.ex_eqlI rfl (hI.pure 35 _ _ rfl (hq ⟨35, .data⟩ (by simp) rfl)) (hI.pure 37 _ _ rfl (hq ⟨37, .data⟩ (by simp) rfl)) )
    | 39, _ => injection ho with ho; subst ho; exact Lt.Does.read rfl (fun Lq aq w' hI hq => Lt.wn0 rfl) (fun Lq aq w' hI hq => Lt.ex_pick (b := true) rfl (hI.pure 33 _ _ rfl (hq ⟨33, .data⟩ (by simp) rfl)) (by first | exact (hI.pure 38 _ _ rfl (hq ⟨38, .data⟩ (by simp) rfl)) | simpa using (hI.pure 38 _ _ rfl (hq ⟨38, .data⟩ (by simp) rfl))))
    | 40, _ => injection ho with ho; subst ho; exact Lt.Does.read rfl (fun Lq aq w' hI hq => Lt.wn0 rfl) (fun Lq aq w' hI hq => Lt.ex_assign rfl (hI.pure 39 _ _ rfl (hq ⟨39, .data⟩ (by simp) rfl)))
  case fin =>
    intro Lq a' w' hI hall
    have hw := hI.world
    obtain rfl : a' = ⟨#[.agg #[.int .i64 s0, .int .i64 s1, .int .i64 s2, .int .i64 s3, .int .i64 s4, .int .i64 s5], .int .i64 a, .int .i64 b, .pointer (some ⟨w.heap.size, 0, none⟩), undef, undef, .bool true, .int .i64 v_sz, .int .i64 e_sz, .int .i64 v_ak, .int .i64 e_ak, .int .i64 v_ro, .int .i64 e_ro, .int .i64 v_we, .int .i64 e_we, .int .i64 v_ob, .int .i64 e_ob, .int .i64 v_sl, .int .i64 e_sl, .string v_na, .int .i64 e_na, .int .i64 v_sz, .int .i64 e_sz, .int .i64 v_ak, .int .i64 e_ak, .int .i64 v_ro, .int .i64 e_ro, .int .i64 v_we, .int .i64 e_we, .int .i64 v_ob, .int .i64 e_ob, .int .i64 v_sl, .int .i64 e_sl, .string v_na, .int .i64 e_na, .bool true, .bool false, .tuple #[.int .i64 v_sz, .int .i64 e_sz], .agg #[.int .i64 s0, .int .i64 s1, .int .i64 s2, .int .i64 s3, .int .i64 s4, .int .i64 s5], .tuple #[.int .i64 v_sz, .int .i64 e_sz], .int .i64 v_sz, .int .i64 e_sz, .tuple #[.int .i64 v_ak, .int .i64 e_ak], .agg #[.int .i64 s0, .int .i64 s1, .int .i64 s2, .int .i64 s3, .int .i64 s4, .int .i64 s5], .int .i64 a, .tuple #[.int .i64 v_ak, .int .i64 e_ak], .int .i64 v_ak, .int .i64 e_ak, .tuple #[.int .i64 v_ro, .int .i64 e_ro], .agg #[.int .i64 s0, .int .i64 s1, .int .i64 s2, .int .i64 s3, .int .i64 s4, .int .i64 s5], .int .i64 a, .int .i64 b, .tuple #[.int .i64 v_ro, .int .i64 e_ro], .int .i64 v_ro, .int .i64 e_ro, .tuple #[.int .i64 v_we, .int .i64 e_we], .agg #[.int .i64 s0, .int .i64 s1, .int .i64 s2, .int .i64 s3, .int .i64 s4, .int .i64 s5], .int .i64 a, .tuple #[.int .i64 v_we, .int .i64 e_we], .int .i64 v_we, .int .i64 e_we, .tuple #[.int .i64 v_ob, .int .i64 e_ob], .agg #[.int .i64 s0, .int .i64 s1, .int .i64 s2, .int .i64 s3, .int .i64 s4, .int .i64 s5], .int .i64 a, .tuple #[.int .i64 v_ob, .int .i64 e_ob], .int .i64 v_ob, .int .i64 e_ob, .tuple #[.int .i64 v_sl, .int .i64 e_sl], .agg #[.int .i64 s0, .int .i64 s1, .int .i64 s2, .int .i64 s3, .int .i64 s4, .int .i64 s5], .int .i64 a, .int .i64 b, .tuple #[.int .i64 v_sl, .int .i64 e_sl], .int .i64 v_sl, .int .i64 e_sl, .tuple #[.string v_na, .int .i64 e_na], .agg #[.int .i64 s0, .int .i64 s1, .int .i64 s2, .int .i64 s3, .int .i64 s4, .int .i64 s5], .int .i64 a, .tuple #[.string v_na, .int .i64 e_na], .string v_na, .int .i64 e_na, .tuple #[.int .i64 v_sz, .int .i64 e_sz], .agg #[.int .i64 s0, .int .i64 s1, .int .i64 s2, .int .i64 s3, .int .i64 s4, .int .i64 s5], .tuple #[.int .i64 v_sz, .int .i64 e_sz], .int .i64 v_sz, .int .i64 e_sz, .tuple #[.int .i64 v_ak, .int .i64 e_ak], .agg #[.int .i64 s0, .int .i64 s1, .int .i64 s2, .int .i64 s3, .int .i64 s4, .int .i64 s5], .int .i64 a, .tuple #[.int .i64 v_ak, .int .i64 e_ak], .int .i64 v_ak, .int .i64 e_ak, .tuple #[.int .i64 v_ro, .int .i64 e_ro], .agg #[.int .i64 s0, .int .i64 s1, .int .i64 s2, .int .i64 s3, .int .i64 s4, .int .i64 s5], .int .i64 a, .int .i64 b, .tuple #[.int .i64 v_ro, .int .i64 e_ro], .int .i64 v_ro, .int .i64 e_ro, .tuple #[.int .i64 v_we, .int .i64 e_we], .agg #[.int .i64 s0, .int .i64 s1, .int .i64 s2, .int .i64 s3, .int .i64 s4, .int .i64 s5], .int .i64 a, .tuple #[.int .i64 v_we, .int .i64 e_we], .int .i64 v_we, .int .i64 e_we, .tuple #[.int .i64 v_ob, .int .i64 e_ob], .agg #[.int .i64 s0, .int .i64 s1, .int .i64 s2, .int .i64 s3, .int .i64 s4, .int .i64 s5], .int .i64 a, .tuple #[.int .i64 v_ob, .int .i64 e_ob], .int .i64 v_ob, .int .i64 e_ob, .tuple #[.int .i64 v_sl, .int .i64 e_sl], .agg #[.int .i64 s0, .int .i64 s1, .int .i64 s2, .int .i64 s3, .int .i64 s4, .int .i64 s5], .int .i64 a, .int .i64 b, .tuple #[.int .i64 v_sl, .int .i64 e_sl], .int .i64 v_sl, .int .i64 e_sl, .tuple #[.string v_na, .int .i64 e_na], .agg #[.int .i64 s0, .int .i64 s1, .int .i64 s2, .int .i64 s3, .int .i64 s4, .int .i64 s5], .int .i64 a, .tuple #[.string v_na, .int .i64 e_na], .string v_na, .int .i64 e_na, .int .i64 v_sz, .int .i64 v_sz, .bool false, .bool false, .int .i64 v_ak, .int .i64 v_ak, .bool false, .bool false, .bool false, .int .i64 v_ro, .int .i64 v_ro, .bool false, .bool false, .bool false, .int .i64 v_we, .int .i64 v_we, .bool false, .bool false, .bool false, .int .i64 v_ob, .int .i64 v_ob, .bool false, .bool false, .bool false, .int .i64 v_sl, .int .i64 v_sl, .bool false, .bool false, .bool false, .string v_na, .string v_na, .bool false, .bool false, .int .i64 e_sz, .int .i64 e_sz, .bool true, .bool true, .int .i64 e_ak, .int .i64 e_ak, .bool true, .bool true, .bool true, .int .i64 e_ro, .int .i64 e_ro, .bool true, .bool true, .bool true, .int .i64 e_we, .int .i64 e_we, .bool true, .bool true, .bool true, .int .i64 e_ob, .int .i64 e_ob, .bool true, .bool true, .bool true, .int .i64 e_sl, .int .i64 e_sl, .bool true, .bool true, .bool true, .int .i64 e_na, .int .i64 e_na, .bool true, .bool true, .bool true, .agg #[.int .i64 s0, .int .i64 s1, .int .i64 s2, .int .i64 s3, .int .i64 s4, .int .i64 s5], .int .i64 e_c, .agg #[.int .i64 s0, .int .i64 s1, .int .i64 s2, .int .i64 s3, .int .i64 s4, .int .i64 s5], .int .i64 e_c, .bool true, .bool true], []⟩ := Lt.act_eq a' [.agg #[.int .i64 s0, .int .i64 s1, .int .i64 s2, .int .i64 s3, .int .i64 s4, .int .i64 s5], .int .i64 a, .int .i64 b, .pointer (some ⟨w.heap.size, 0, none⟩), undef, undef, .bool true, .int .i64 v_sz, .int .i64 e_sz, .int .i64 v_ak, .int .i64 e_ak, .int .i64 v_ro, .int .i64 e_ro, .int .i64 v_we, .int .i64 e_we, .int .i64 v_ob, .int .i64 e_ob, .int .i64 v_sl, .int .i64 e_sl, .string v_na, .int .i64 e_na, .int .i64 v_sz, .int .i64 e_sz, .int .i64 v_ak, .int .i64 e_ak, .int .i64 v_ro, .int .i64 e_ro, .int .i64 v_we, .int .i64 e_we, .int .i64 v_ob, .int .i64 e_ob, .int .i64 v_sl, .int .i64 e_sl, .string v_na, .int .i64 e_na, .bool true, .bool false, .tuple #[.int .i64 v_sz, .int .i64 e_sz], .agg #[.int .i64 s0, .int .i64 s1, .int .i64 s2, .int .i64 s3, .int .i64 s4, .int .i64 s5], .tuple #[.int .i64 v_sz, .int .i64 e_sz], .int .i64 v_sz, .int .i64 e_sz, .tuple #[.int .i64 v_ak, .int .i64 e_ak], .agg #[.int .i64 s0, .int .i64 s1, .int .i64 s2, .int .i64 s3, .int .i64 s4, .int .i64 s5], .int .i64 a, .tuple #[.int .i64 v_ak, .int .i64 e_ak], .int .i64 v_ak, .int .i64 e_ak, .tuple #[.int .i64 v_ro, .int .i64 e_ro], .agg #[.int .i64 s0, .int .i64 s1, .int .i64 s2, .int .i64 s3, .int .i64 s4, .int .i64 s5], .int .i64 a, .int .i64 b, .tuple #[.int .i64 v_ro, .int .i64 e_ro], .int .i64 v_ro, .int .i64 e_ro, .tuple #[.int .i64 v_we, .int .i64 e_we], .agg #[.int .i64 s0, .int .i64 s1, .int .i64 s2, .int .i64 s3, .int .i64 s4, .int .i64 s5], .int .i64 a, .tuple #[.int .i64 v_we, .int .i64 e_we], .int .i64 v_we, .int .i64 e_we, .tuple #[.int .i64 v_ob, .int .i64 e_ob], .agg #[.int .i64 s0, .int .i64 s1, .int .i64 s2, .int .i64 s3, .int .i64 s4, .int .i64 s5], .int .i64 a, .tuple #[.int .i64 v_ob, .int .i64 e_ob], .int .i64 v_ob, .int .i64 e_ob, .tuple #[.int .i64 v_sl, .int .i64 e_sl], .agg #[.int .i64 s0, .int .i64 s1, .int .i64 s2, .int .i64 s3, .int .i64 s4, .int .i64 s5], .int .i64 a, .int .i64 b, .tuple #[.int .i64 v_sl, .int .i64 e_sl], .int .i64 v_sl, .int .i64 e_sl, .tuple #[.string v_na, .int .i64 e_na], .agg #[.int .i64 s0, .int .i64 s1, .int .i64 s2, .int .i64 s3, .int .i64 s4, .int .i64 s5], .int .i64 a, .tuple #[.string v_na, .int .i64 e_na], .string v_na, .int .i64 e_na, .tuple #[.int .i64 v_sz, .int .i64 e_sz], .agg #[.int .i64 s0, .int .i64 s1, .int .i64 s2, .int .i64 s3, .int .i64 s4, .int .i64 s5], .tuple #[.int .i64 v_sz, .int .i64 e_sz], .int .i64 v_sz, .int .i64 e_sz, .tuple #[.int .i64 v_ak, .int .i64 e_ak], .agg #[.int .i64 s0, .int .i64 s1, .int .i64 s2, .int .i64 s3, .int .i64 s4, .int .i64 s5], .int .i64 a, .tuple #[.int .i64 v_ak, .int .i64 e_ak], .int .i64 v_ak, .int .i64 e_ak, .tuple #[.int .i64 v_ro, .int .i64 e_ro], .agg #[.int .i64 s0, .int .i64 s1, .int .i64 s2, .int .i64 s3, .int .i64 s4, .int .i64 s5], .int .i64 a, .int .i64 b, .tuple #[.int .i64 v_ro, .int .i64 e_ro], .int .i64 v_ro, .int .i64 e_ro, .tuple #[.int .i64 v_we, .int .i64 e_we], .agg #[.int .i64 s0, .int .i64 s1, .int .i64 s2, .int .i64 s3, .int .i64 s4, .int .i64 s5], .int .i64 a, .tuple #[.int .i64 v_we, .int .i64 e_we], .int .i64 v_we, .int .i64 e_we, .tuple #[.int .i64 v_ob, .int .i64 e_ob], .agg #[.int .i64 s0, .int .i64 s1, .int .i64 s2, .int .i64 s3, .int .i64 s4, .int .i64 s5], .int .i64 a, .tuple #[.int .i64 v_ob, .int .i64 e_ob], .int .i64 v_ob, .int .i64 e_ob, .tuple #[.int .i64 v_sl, .int .i64 e_sl], .agg #[.int .i64 s0, .int .i64 s1, .int .i64 s2, .int .i64 s3, .int .i64 s4, .int .i64 s5], .int .i64 a, .int .i64 b, .tuple #[.int .i64 v_sl, .int .i64 e_sl], .int .i64 v_sl, .int .i64 e_sl, .tuple #[.string v_na, .int .i64 e_na], .agg #[.int .i64 s0, .int .i64 s1, .int .i64 s2, .int .i64 s3, .int .i64 s4, .int .i64 s5], .int .i64 a, .tuple #[.string v_na, .int .i64 e_na], .string v_na, .int .i64 e_na, .int .i64 v_sz, .int .i64 v_sz, .bool false, .bool false, .int .i64 v_ak, .int .i64 v_ak, .bool false, .bool false, .bool false, .int .i64 v_ro, .int .i64 v_ro, .bool false, .bool false, .bool false, .int .i64 v_we, .int .i64 v_we, .bool false, .bool false, .bool false, .int .i64 v_ob, .int .i64 v_ob, .bool false, .bool false, .bool false, .int .i64 v_sl, .int .i64 v_sl, .bool false, .bool false, .bool false, .string v_na, .string v_na, .bool false, .bool false, .int .i64 e_sz, .int .i64 e_sz, .bool true, .bool true, .int .i64 e_ak, .int .i64 e_ak, .bool true, .bool true, .bool true, .int .i64 e_ro, .int .i64 e_ro, .bool true, .bool true, .bool true, .int .i64 e_we, .int .i64 e_we, .bool true, .bool true, .bool true, .int .i64 e_ob, .int .i64 e_ob, .bool true, .bool true, .bool true, .int .i64 e_sl, .int .i64 e_sl, .bool true, .bool true, .bool true, .int .i64 e_na, .int .i64 e_na, .bool true, .bool true, .bool true, .agg #[.int .i64 s0, .int .i64 s1, .int .i64 s2, .int .i64 s3, .int .i64 s4, .int .i64 s5], .int .i64 e_c, .agg #[.int .i64 s0, .int .i64 s1, .int .i64 s2, .int .i64 s3, .int .i64 s4, .int .i64 s5], .int .i64 e_c, .bool true, .bool true] hI.df (by rw [hI.sz]; rfl) (fun k hk => by
      have hk' : k < 196 := hk
      match k, hk' with
      | 0, _ => exact hI.fix 0 (Lt.notD rfl)
      | 1, _ => exact hI.fix 1 (Lt.notD rfl)
      | 2, _ => exact hI.fix 2 (Lt.notD rfl)
      | 3, _ => exact hI.fix 3 (Lt.notD rfl)
      | 4, _ => exact hI.fix 4 (Lt.notD rfl)
      | 5, _ => exact hI.fix 5 (Lt.notD rfl)
      | 6, _ => exact hI.pure 40 6 _ rfl (hall 40 (by decide))
      | 7, _ => exact hI.fix 7 (Lt.notD rfl)
      | 8, _ => exact hI.fix 8 (Lt.notD rfl)
      | 9, _ => exact hI.fix 9 (Lt.notD rfl)
      | 10, _ => exact hI.fix 10 (Lt.notD rfl)
      | 11, _ => exact hI.fix 11 (Lt.notD rfl)
      | 12, _ => exact hI.fix 12 (Lt.notD rfl)
      | 13, _ => exact hI.fix 13 (Lt.notD rfl)
      | 14, _ => exact hI.fix 14 (Lt.notD rfl)
      | 15, _ => exact hI.fix 15 (Lt.notD rfl)
      | 16, _ => exact hI.fix 16 (Lt.notD rfl)
      | 17, _ => exact hI.fix 17 (Lt.notD rfl)
      | 18, _ => exact hI.fix 18 (Lt.notD rfl)
      | 19, _ => exact hI.fix 19 (Lt.notD rfl)
      | 20, _ => exact hI.fix 20 (Lt.notD rfl)
      | 21, _ => exact hI.fix 21 (Lt.notD rfl)
      | 22, _ => exact hI.fix 22 (Lt.notD rfl)
      | 23, _ => exact hI.fix 23 (Lt.notD rfl)
      | 24, _ => exact hI.fix 24 (Lt.notD rfl)
      | 25, _ => exact hI.fix 25 (Lt.notD rfl)
      | 26, _ => exact hI.fix 26 (Lt.notD rfl)
      | 27, _ => exact hI.fix 27 (Lt.notD rfl)
      | 28, _ => exact hI.fix 28 (Lt.notD rfl)
      | 29, _ => exact hI.fix 29 (Lt.notD rfl)
      | 30, _ => exact hI.fix 30 (Lt.notD rfl)
      | 31, _ => exact hI.fix 31 (Lt.notD rfl)
      | 32, _ => exact hI.fix 32 (Lt.notD rfl)
      | 33, _ => exact hI.fix 33 (Lt.notD rfl)
      | 34, _ => exact hI.fix 34 (Lt.notD rfl)
      | 35, _ => exact hI.fix 35 (Lt.notD rfl)
      | 36, _ => exact hI.fix 36 (Lt.notD rfl)
      | 37, _ => exact hI.fix 37 (Lt.notD rfl)
      | 38, _ => exact hI.fix 38 (Lt.notD rfl)
      | 39, _ => exact hI.fix 39 (Lt.notD rfl)
      | 40, _ => exact hI.fix 40 (Lt.notD rfl)
      | 41, _ => exact hI.fix 41 (Lt.notD rfl)
      | 42, _ => exact hI.fix 42 (Lt.notD rfl)
      | 43, _ => exact hI.fix 43 (Lt.notD rfl)
      | 44, _ => exact hI.fix 44 (Lt.notD rfl)
      | 45, _ => exact hI.fix 45 (Lt.notD rfl)
      | 46, _ => exact hI.fix 46 (Lt.notD rfl)
      | 47, _ => exact hI.fix 47 (Lt.notD rfl)
      | 48, _ => exact hI.fix 48 (Lt.notD rfl)
      | 49, _ => exact hI.fix 49 (Lt.notD rfl)
      | 50, _ => exact hI.fix 50 (Lt.notD rfl)
      | 51, _ => exact hI.fix 51 (Lt.notD rfl)
      | 52, _ => exact hI.fix 52 (Lt.notD rfl)
      | 53, _ => exact hI.fix 53 (Lt.notD rfl)
      | 54, _ => exact hI.fix 54 (Lt.notD rfl)
      | 55, _ => exact hI.fix 55 (Lt.notD rfl)
      | 56, _ => exact hI.fix 56 (Lt.notD rfl)
      | 57, _ => exact hI.fix 57 (Lt.notD rfl)
      | 58, _ => exact hI.fix 58 (Lt.notD rfl)
      | 59, _ => exact hI.fix 59 (Lt.notD rfl)
      | 60, _ => exact hI.fix 60 (Lt.notD rfl)
      | 61, _ => exact hI.fix 61 (Lt.notD rfl)
      | 62, _ => exact hI.fix 62 (Lt.notD rfl)
      | 63, _ => exact hI.fix 63 (Lt.notD rfl)
      | 64, _ => exact hI.fix 64 (Lt.notD rfl)
      | 65, _ => exact hI.fix 65 (Lt.notD rfl)
      | 66, _ => exact hI.fix 66 (Lt.notD rfl)
      | 67, _ => exact hI.fix 67 (Lt.notD rfl)
      | 68, _ => exact hI.fix 68 (Lt.notD rfl)
      | 69, _ => exact hI.fix 69 (Lt.notD rfl)
      | 70, _ => exact hI.fix 70 (Lt.notD rfl)
      | 71, _ => exact hI.fix 71 (Lt.notD rfl)
      | 72, _ => exact hI.fix 72 (Lt.notD rfl)
      | 73, _ => exact hI.fix 73 (Lt.notD rfl)
      | 74, _ => exact hI.fix 74 (Lt.notD rfl)
      | 75, _ => exact hI.fix 75 (Lt.notD rfl)
      | 76, _ => exact hI.fix 76 (Lt.notD rfl)
      | 77, _ => exact hI.fix 77 (Lt.notD rfl)
      | 78, _ => exact hI.fix 78 (Lt.notD rfl)
      | 79, _ => exact hI.fix 79 (Lt.notD rfl)
      | 80, _ => exact hI.fix 80 (Lt.notD rfl)
      | 81, _ => exact hI.fix 81 (Lt.notD rfl)
      | 82, _ => exact hI.fix 82 (Lt.notD rfl)
      | 83, _ => exact hI.fix 83 (Lt.notD rfl)
      | 84, _ => exact hI.fix 84 (Lt.notD rfl)
      | 85, _ => exact hI.fix 85 (Lt.notD rfl)
      | 86, _ => exact hI.fix 86 (Lt.notD rfl)
      | 87, _ => exact hI.fix 87 (Lt.notD rfl)
      | 88, _ => exact hI.fix 88 (Lt.notD rfl)
      | 89, _ => exact hI.fix 89 (Lt.notD rfl)
      | 90, _ => exact hI.fix 90 (Lt.notD rfl)
      | 91, _ => exact hI.fix 91 (Lt.notD rfl)
      | 92, _ => exact hI.fix 92 (Lt.notD rfl)
      | 93, _ => exact hI.fix 93 (Lt.notD rfl)
      | 94, _ => exact hI.fix 94 (Lt.notD rfl)
      | 95, _ => exact hI.fix 95 (Lt.notD rfl)
      | 96, _ => exact hI.fix 96 (Lt.notD rfl)
      | 97, _ => exact hI.fix 97 (Lt.notD rfl)
      | 98, _ => exact hI.fix 98 (Lt.notD rfl)
      | 99, _ => exact hI.fix 99 (Lt.notD rfl)
      | 100, _ => exact hI.fix 100 (Lt.notD rfl)
      | 101, _ => exact hI.fix 101 (Lt.notD rfl)
      | 102, _ => exact hI.fix 102 (Lt.notD rfl)
      | 103, _ => exact hI.fix 103 (Lt.notD rfl)
      | 104, _ => exact hI.fix 104 (Lt.notD rfl)
      | 105, _ => exact hI.fix 105 (Lt.notD rfl)
      | 106, _ => exact hI.fix 106 (Lt.notD rfl)
      | 107, _ => exact hI.fix 107 (Lt.notD rfl)
      | 108, _ => exact hI.fix 108 (Lt.notD rfl)
      | 109, _ => exact hI.fix 109 (Lt.notD rfl)
      | 110, _ => exact hI.fix 110 (Lt.notD rfl)
      | 111, _ => exact hI.fix 111 (Lt.notD rfl)
      | 112, _ => exact hI.fix 112 (Lt.notD rfl)
      | 113, _ => exact hI.fix 113 (Lt.notD rfl)
      | 114, _ => exact hI.fix 114 (Lt.notD rfl)
      | 115, _ => exact hI.fix 115 (Lt.notD rfl)
      | 116, _ => exact hI.fix 116 (Lt.notD rfl)
      | 117, _ => exact hI.fix 117 (Lt.notD rfl)
      | 118, _ => exact hI.fix 118 (Lt.notD rfl)
      | 119, _ => exact hI.fix 119 (Lt.notD rfl)
      | 120, _ => exact hI.fix 120 (Lt.notD rfl)
      | 121, _ => exact hI.fix 121 (Lt.notD rfl)
      | 122, _ => exact hI.fix 122 (Lt.notD rfl)
      | 123, _ => exact hI.fix 123 (Lt.notD rfl)
      | 124, _ => exact hI.fix 124 (Lt.notD rfl)
      | 125, _ => exact hI.fix 125 (Lt.notD rfl)
      | 126, _ => exact hI.fix 126 (Lt.notD rfl)
      | 127, _ => exact hI.fix 127 (Lt.notD rfl)
      | 128, _ => exact hI.fix 128 (Lt.notD rfl)
      | 129, _ => exact hI.fix 129 (Lt.notD rfl)
      | 130, _ => exact hI.fix 130 (Lt.notD rfl)
      | 131, _ => exact hI.fix 131 (Lt.notD rfl)
      | 132, _ => exact hI.fix 132 (Lt.notD rfl)
      | 133, _ => exact hI.fix 133 (Lt.notD rfl)
      | 134, _ => exact hI.fix 134 (Lt.notD rfl)
      | 135, _ => exact hI.fix 135 (Lt.notD rfl)
      | 136, _ => exact hI.fix 136 (Lt.notD rfl)
      | 137, _ => exact hI.fix 137 (Lt.notD rfl)
      | 138, _ => exact hI.fix 138 (Lt.notD rfl)
      | 139, _ => exact hI.fix 139 (Lt.notD rfl)
      | 140, _ => exact hI.fix 140 (Lt.notD rfl)
      | 141, _ => exact hI.fix 141 (Lt.notD rfl)
      | 142, _ => exact hI.fix 142 (Lt.notD rfl)
      | 143, _ => exact hI.fix 143 (Lt.notD rfl)
      | 144, _ => exact hI.fix 144 (Lt.notD rfl)
      | 145, _ => exact hI.fix 145 (Lt.notD rfl)
      | 146, _ => exact hI.fix 146 (Lt.notD rfl)
      | 147, _ => exact hI.fix 147 (Lt.notD rfl)
      | 148, _ => exact hI.fix 148 (Lt.notD rfl)
      | 149, _ => exact hI.fix 149 (Lt.notD rfl)
      | 150, _ => exact hI.fix 150 (Lt.notD rfl)
      | 151, _ => exact hI.fix 151 (Lt.notD rfl)
      | 152, _ => exact hI.fix 152 (Lt.notD rfl)
      | 153, _ => exact hI.fix 153 (Lt.notD rfl)
      | 154, _ => exact hI.fix 154 (Lt.notD rfl)
      | 155, _ => exact hI.fix 155 (Lt.notD rfl)
      | 156, _ => exact hI.pure 0 156 _ rfl (hall 0 (by decide))
      | 157, _ => exact hI.pure 1 157 _ rfl (hall 1 (by decide))
      | 158, _ => exact hI.pure 2 158 _ rfl (hall 2 (by decide))
      | 159, _ => exact hI.pure 3 159 _ rfl (hall 3 (by decide))
      | 160, _ => exact hI.pure 4 160 _ rfl (hall 4 (by decide))
      | 161, _ => exact hI.pure 5 161 _ rfl (hall 5 (by decide))
      | 162, _ => exact hI.pure 6 162 _ rfl (hall 6 (by decide))
      | 163, _ => exact hI.pure 7 163 _ rfl (hall 7 (by decide))
      | 164, _ => exact hI.pure 8 164 _ rfl (hall 8 (by decide))
      | 165, _ => exact hI.pure 9 165 _ rfl (hall 9 (by decide))
      | 166, _ => exact hI.pure 10 166 _ rfl (hall 10 (by decide))
      | 167, _ => exact hI.pure 11 167 _ rfl (hall 11 (by decide))
      | 168, _ => exact hI.pure 12 168 _ rfl (hall 12 (by decide))
      | 169, _ => exact hI.pure 13 169 _ rfl (hall 13 (by decide))
      | 170, _ => exact hI.pure 14 170 _ rfl (hall 14 (by decide))
      | 171, _ => exact hI.pure 15 171 _ rfl (hall 15 (by decide))
      | 172, _ => exact hI.pure 16 172 _ rfl (hall 16 (by decide))
      | 173, _ => exact hI.pure 17 173 _ rfl (hall 17 (by decide))
      | 174, _ => exact hI.pure 18 174 _ rfl (hall 18 (by decide))
      | 175, _ => exact hI.pure 19 175 _ rfl (hall 19 (by decide))
      | 176, _ => exact hI.pure 20 176 _ rfl (hall 20 (by decide))
      | 177, _ => exact hI.pure 21 177 _ rfl (hall 21 (by decide))
      | 178, _ => exact hI.pure 22 178 _ rfl (hall 22 (by decide))
      | 179, _ => exact hI.pure 23 179 _ rfl (hall 23 (by decide))
      | 180, _ => exact hI.pure 24 180 _ rfl (hall 24 (by decide))
      | 181, _ => exact hI.pure 25 181 _ rfl (hall 25 (by decide))
      | 182, _ => exact hI.pure 26 182 _ rfl (hall 26 (by decide))
      | 183, _ => exact hI.pure 27 183 _ rfl (hall 27 (by decide))
      | 184, _ => exact hI.pure 28 184 _ rfl (hall 28 (by decide))
      | 185, _ => exact hI.pure 29 185 _ rfl (hall 29 (by decide))
      | 186, _ => exact hI.pure 30 186 _ rfl (hall 30 (by decide))
      | 187, _ => exact hI.pure 31 187 _ rfl (hall 31 (by decide))
      | 188, _ => exact hI.pure 32 188 _ rfl (hall 32 (by decide))
      | 189, _ => exact hI.pure 33 189 _ rfl (hall 33 (by decide))
      | 190, _ => exact hI.pure 34 190 _ rfl (hall 34 (by decide))
      | 191, _ => exact hI.pure 35 191 _ rfl (hall 35 (by decide))
      | 192, _ => exact hI.pure 36 192 _ rfl (hall 36 (by decide))
      | 193, _ => exact hI.pure 37 193 _ rfl (hall 37 (by decide))
      | 194, _ => exact hI.pure 38 194 _ rfl (hall 38 (by decide))
      | 195, _ => exact hI.pure 39 195 _ rfl (hall 39 (by decide))
      | q + 196, hq => exact absurd hq (by omega))
    rename_i K2 hK2
    refine hK2 _ _ ?_
    go_wp2_with fail
    go_ret
    exact ⟨rfl, (K.out _ hw).1⟩
end Shape
end Go.Proofs.YtfnfoebmpggmdaaDoor
