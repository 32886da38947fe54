/-
  Lemmas: HeapP, VsR, RoomRP, HeapA.
-/
import Derived.Test.YtppgbndoijppnaaGreatTp27
import Derived.Test.YtppgbndoijppnaaGreatTp26
namespace Go.Proofs.YtppgbndoijppnaaGreat
set_option maxHeartbeats 8000000
open Go.RowKit
set_option linter.unusedVariables false
set_option linter.unusedSimpArgs false
set_option linter.unnecessarySimpa false
set_option maxRecDepth 20000
section
namespace Shape
theorem place_arg {s0 s1 s2 s3 s4 s5 : Int} (H : R5 s0 s1 s2 s3 s4) (v : Int) (w : World) : Calls Tryz.prog 105 #[.agg #[.int .i64 s0, .int .i64 s1, .int .i64 s2, .int .i64 s3, .int .i64 s4, .int .i64 s5], .bool false, .int .i64 v] w fun e w' => e = .returned (.tuple #[.int .i64 0, .int .i64 2]) ∧ Below w.heap.size w w' := by
 have HH := hide H
 clear H
 obtain ⟨W0, hW0, B0, K⟩ := box w s0 s1 s2 s3 s4 s5
 have HB := hide B0
 obtain ⟨-, l0, x0, x1, x2, x3, x4, x5⟩ := K.out W0 (Below.refl _ _)
 clear B0
 go_enter Tryz.func105, Tryz.ntmps105
 go_wp2_with (go_at_call 28; refine (rcheck_ok HH.out _).mono ?_; rintro e w1 ⟨rfl, hb1⟩; have HB1 := hide hb1; clear hb1; obtain ⟨-, m1, y0, y1, y2, y3, y4, y5⟩ := K.out w1 HB1.out)
 go_ret2
 exact ⟨rfl, (K.out _ HB1.out).1⟩
theorem place_ok {s0 s1 s2 s3 s4 s5 : Int} (H : R5 s0 s1 s2 s3 s4) (v : Int) (w : World) : Calls Tryz.prog 105 #[.agg #[.int .i64 s0, .int .i64 s1, .int .i64 s2, .int .i64 s3, .int .i64 s4, .int .i64 s5], .bool true, .int .i64 v] w fun e w' => e = .returned (.tuple #[.int .i64 v, .int .i64 0]) ∧ Below w.heap.size w w' := by
 have HH := hide H
 clear H
 obtain ⟨W0, hW0, B0, K⟩ := box w s0 s1 s2 s3 s4 s5
 have HB := hide B0
 obtain ⟨-, l0, x0, x1, x2, x3, x4, x5⟩ := K.out W0 (Below.refl _ _)
 clear B0
 go_enter Tryz.func105, Tryz.ntmps105
 go_wp2_with (go_at_call 28; refine (rcheck_ok HH.out _).mono ?_; rintro e w1 ⟨rfl, hb1⟩; have HB1 := hide hb1; clear hb1; obtain ⟨-, m1, y0, y1, y2, y3, y4, y5⟩ := K.out w1 HB1.out)
 go_ret2
 exact ⟨rfl, (K.out _ HB1.out).1⟩
theorem rsize_bad {s0 s1 s2 s3 s4 s5 : Int} (H : ¬ R5 s0 s1 s2 s3 s4) (w : World) : Calls Tryz.prog 12 #[.agg #[.int .i64 s0, .int .i64 s1, .int .i64 s2, .int .i64 s3, .int .i64 s4, .int .i64 s5]] w fun e w' => e = .returned (.tuple #[.int .i64 0, .int .i64 120]) ∧ Below w.heap.size w w' := by
 have HH := hide H
 clear H
 obtain ⟨W0, hW0, B0, K⟩ := box w s0 s1 s2 s3 s4 s5
 have HB := hide B0
 obtain ⟨-, l0, x0, x1, x2, x3, x4, x5⟩ := K.out W0 (Below.refl _ _)
 clear B0
 go_enter Tryz.func12, Tryz.ntmps12
 go_wp2_with (go_at_call 28; refine (rcheck_bad HH.out _).mono ?_; rintro e w1 ⟨rfl, hb1⟩; have HB1 := hide hb1; clear hb1; obtain ⟨-, m1, y0, y1, y2, y3, y4, y5⟩ := K.out w1 HB1.out)
 go_ret2
 exact ⟨rfl, (K.out _ HB1.out).1⟩
theorem rsize_ok {o s h r k : Nat} {s5 : Int} (H : (⟨o, s, h, r, k⟩ : Sh).Ok) (w : World) : Calls Tryz.prog 12 #[.agg #[.int .i64 (o : Int), .int .i64 (s : Int), .int .i64 (h : Int), .int .i64 (r : Int), .int .i64 (k : Int), .int .i64 s5]] w fun e w' => e = .returned (.tuple #[.int .i64 ((size ⟨o, s, h, r, k⟩ : Nat) : Int), .int .i64 0]) ∧ Below w.heap.size w w' := by
 have HH := hide (r5 H)
 obtain ⟨b1, b2, b3, b4, b5, b6, b7, b8, b9, b10⟩ := bnds H
 obtain ⟨q, hq⟩ : ∃ q, o * (3 + s) = q := ⟨_, rfl⟩
 obtain ⟨p, hp⟩ : ∃ p, h * r = p := ⟨_, rfl⟩
 have ES := hide (show ((size ⟨o, s, h, r, k⟩ : Nat) : Int) = 8 + (h : Int) + (p : Int) + (k : Int) + (q : Int) from by simp only [size, bO, bK, bR, ow]; rw [hp, hq]; omega)
 rw [hp] at b6
 rw [hq] at b7
 have hp' : (h : Int) * (r : Int) = (p : Int) := by rw [← hp]; simp
 have hq' : (o : Int) * (3 + (s : Int)) = (q : Int) := by rw [← hq]; simp
 clear H hq hp
 obtain ⟨W0, hW0, B0, K⟩ := box w (o : Int) (s : Int) (h : Int) (r : Int) (k : Int) s5
 have HB := hide B0
 obtain ⟨-, l0, x0, x1, x2, x3, x4, x5⟩ := K.out W0 (Below.refl _ _)
 clear B0
 go_enter Tryz.func12, Tryz.ntmps12
 go_wp2_with (go_at_call 28; refine (rcheck_ok HH.out _).mono ?_; rintro e w1 ⟨rfl, hb1⟩; have HB1 := hide hb1; clear hb1; obtain ⟨-, m1, y0, y1, y2, y3, y4, y5⟩ := K.out w1 HB1.out)
 go_ret2
 exact ⟨by rw [ES.out]; rfl, (K.out _ HB1.out).1⟩
theorem robject_of {s0 s1 s2 s3 s4 s5 : Int} {a v e : Int} {q : Bool} (T1 : Hid (∀ w1 : World, Calls Tryz.prog 56 #[.int .i64 a, .int .i64 1, .int .i64 s0] w1 fun e w' => e = .returned (.bool q) ∧ w' = w1)) (PL : Hid (∀ w1 : World, Calls Tryz.prog 105 #[.agg #[.int .i64 s0, .int .i64 s1, .int .i64 s2, .int .i64 s3, .int .i64 s4, .int .i64 s5], .bool q, .int .i64 (IntKind.i64.wrap ((IntKind.i64.wrap ((IntKind.i64.wrap ((IntKind.i64.wrap (8 + s2)) + (IntKind.i64.wrap (s2 * s3)))) + s4)) + (IntKind.i64.wrap ((IntKind.i64.wrap (a - 1)) * (IntKind.i64.wrap (3 + s1))))))] w1 fun e' w' => e' = .returned (.tuple #[.int .i64 v, .int .i64 e]) ∧ Below w1.heap.size w1 w')) (w : World) : Calls Tryz.prog 70 #[.agg #[.int .i64 s0, .int .i64 s1, .int .i64 s2, .int .i64 s3, .int .i64 s4, .int .i64 s5], .int .i64 a] w fun e' w' => e' = .returned (.tuple #[.int .i64 v, .int .i64 e]) ∧ Below w.heap.size w w' := by
 obtain ⟨W0, hW0, B0, K⟩ := box w s0 s1 s2 s3 s4 s5
 have HB := hide B0
 obtain ⟨-, l0, x0, x1, x2, x3, x4, x5⟩ := K.out W0 (Below.refl _ _)
 clear B0
 go_enter Tryz.func70, Tryz.ntmps70
 go_wp2_with fail
 refine Lt.region (ks := [(0, 6), (1, 7), (2, 8), (3, 9), (4, 10), (5, 11), (6, 12), (7, 13), (8, 14), (9, 15), (10, 16), (11, 17), (12, 18), (13, 19), (14, 20), (15, 21), (16, 22), (17, 23), (18, 24), (19, 25), (20, 26), (21, 27), (22, 28), (23, 29), (24, 30), (25, 31), (26, 32), (27, 4), (28, 5)]) (vals := fun iv => match iv with
   | 0 => .agg #[.int .i64 s0, .int .i64 s1, .int .i64 s2, .int .i64 s3, .int .i64 s4, .int .i64 s5]
   | 1 => .int .i64 a
   | 2 => .pointer (some ⟨w.heap.size, 0, none⟩)
   | 3 => .int .i64 s0
   | 4 => .bool q
   | 5 => .pointer (some ⟨w.heap.size, 2, none⟩)
   | 6 => .int .i64 s2
   | 7 => .int .i64 (IntKind.i64.wrap (8 + s2))
   | 8 => .pointer (some ⟨w.heap.size, 2, none⟩)
   | 9 => .int .i64 s2
   | 10 => .pointer (some ⟨w.heap.size, 3, none⟩)
   | 11 => .int .i64 s3
   | 12 => .int .i64 (IntKind.i64.wrap (s2 * s3))
   | 13 => .int .i64 (IntKind.i64.wrap ((IntKind.i64.wrap (8 + s2)) + (IntKind.i64.wrap (s2 * s3))))
   | 14 => .pointer (some ⟨w.heap.size, 4, none⟩)
   | 15 => .int .i64 s4
   | 16 => .int .i64 (IntKind.i64.wrap ((IntKind.i64.wrap ((IntKind.i64.wrap (8 + s2)) + (IntKind.i64.wrap (s2 * s3)))) + s4))
   | 17 => .int .i64 a
   | 18 => .int .i64 (IntKind.i64.wrap (a - 1))
   | 19 => .pointer (some ⟨w.heap.size, 1, none⟩)
   | 20 => .int .i64 s1
   | 21 => .int .i64 (IntKind.i64.wrap (3 + s1))
   | 22 => .int .i64 (IntKind.i64.wrap ((IntKind.i64.wrap (a - 1)) * (IntKind.i64.wrap (3 + s1))))
   | 23 => .int .i64 (IntKind.i64.wrap ((IntKind.i64.wrap ((IntKind.i64.wrap ((IntKind.i64.wrap (8 + s2)) + (IntKind.i64.wrap (s2 * s3)))) + s4)) + (IntKind.i64.wrap ((IntKind.i64.wrap (a - 1)) * (IntKind.i64.wrap (3 + s1))))))
   | 24 => .tuple #[.int .i64 v, .int .i64 e]
   | 25 => .int .i64 v
   | 26 => .int .i64 e
   | 27 => .int .i64 v
   | 28 => .int .i64 e
   | _ => undef) (WI := fun w' => Below W0.heap.size W0 w') (by kernel_rfl) ?bk rfl ?dd (⟨rfl, rfl, rfl, Nat.le_refl _, fun _ _ => rfl⟩) ?does ?fin
 case bk =>
  intro iq oq ho
  have hiq : iq < 29 := by have := (Array.getElem?_eq_some_iff.1 ho).1; simpa using this
  match iq, hiq with
  | 0, _ | 1, _ | 2, _ | 3, _ | 4, _ | 5, _ | 6, _ | 7, _ | 8, _ | 9, _ | 10, _ | 11, _ | 12, _ | 13, _ | 14, _ | 15, _ | 16, _ | 17, _ | 18, _ | 19, _ | 20, _ | 21, _ | 22, _ | 23, _ | 24, _ | 25, _ | 26, _ | 27, _ | 28, _ => injection ho with ho; subst ho; simp [Region.binds]
 case dd =>
  intro k hk
  have hk' : k < 33 := by
   simp [Lt.D] at hk
   omega
  simpa using hk'
 case does =>
  intro iq oq ho
  have hiq : iq < 29 := by have := (Array.getElem?_eq_some_iff.1 ho).1; simpa using this
  match iq, hiq with
  | 0, _ => injection ho with ho; subst ho; exact Lt.Does.read rfl (fun Lq aq w' hI hq => Lt.wn0 rfl) (fun Lq aq w' hI hq => Lt.ex_load_row rfl (hI.fix 2 (Lt.notD rfl)) (by obtain ⟨-, -, y0, y1, y2, y3, y4, y5⟩ := K.out w' hI.world; exact rng y0 y1 y2 y3 y4 y5) (by kernel_rfl) (by kernel_rfl))
  | 1, _ => injection ho with ho; subst ho; exact Lt.Does.read rfl (fun Lq aq w' hI hq => Lt.wn0 rfl) (fun Lq aq w' hI hq => Lt.ex_move rfl (hI.fix 1 (Lt.notD rfl)))
  | 2, _ => injection ho with ho; subst ho; exact Lt.Does.read rfl (fun Lq aq w' hI hq => Lt.wn0 rfl) (fun Lq aq w' hI hq => Lt.ex_field rfl (hI.fix 2 (Lt.notD rfl)) (by simp [go_sem]))
  | 3, _ => injection ho with ho; subst ho; exact Lt.Does.read rfl (fun Lq aq w' hI hq => Lt.wn0 rfl) (fun Lq aq w' hI hq => Lt.ex_load rfl (hI.pure 2 _ _ rfl (hq ⟨2, .data⟩ (by simp) rfl)) (by simp [go_sem]) (by obtain ⟨-, -, y0, y1, y2, y3, y4, y5⟩ := K.out w' hI.world; exact y0))
  | 4, _ => injection ho with ho; subst ho; exact Lt.Does.call rfl (fun Lq aq w' hI hq => Lt.wn0 rfl) (fun Lq aq w' hI hq => Lt.call3 rfl (hI.pure 1 _ _ rfl (hq ⟨1, .data⟩ (by simp) rfl)) rfl (hI.pure 3 _ _ rfl (hq ⟨3, .data⟩ (by simp) rfl)) rfl (by simp [go_sem])) (fun w1 hw1 => (T1.out w1).mono (by rintro e w2 ⟨rfl, hw2⟩; obtain rfl := hw2.symm; exact ⟨rfl, hw1⟩))
  | 5, _ => injection ho with ho; subst ho; exact Lt.Does.read rfl (fun Lq aq w' hI hq => Lt.wn0 rfl) (fun Lq aq w' hI hq => Lt.ex_field rfl (hI.fix 2 (Lt.notD rfl)) (by simp [go_sem]))
  | 6, _ => injection ho with ho; subst ho; exact Lt.Does.read rfl (fun Lq aq w' hI hq => Lt.wn0 rfl) (fun Lq aq w' hI hq => Lt.ex_load rfl (hI.pure 5 _ _ rfl (hq ⟨5, .data⟩ (by simp) rfl)) (by simp [go_sem]) (by obtain ⟨-, -, y0, y1, y2, y3, y4, y5⟩ := K.out w' hI.world; exact y2))
  | 7, _ => injection ho with ho; subst ho; exact Lt.Does.read rfl (fun Lq aq w' hI hq => Lt.wn0 rfl) (fun Lq aq w' hI hq => Lt.ex_addI rfl rfl (hI.pure 6 _ _ rfl (hq ⟨6, .data⟩ (by simp) rfl)) rfl)
  | 8, _ => injection ho with ho; subst ho; exact Lt.Does.read rfl (fun Lq aq w' hI hq => Lt.wn0 rfl) (fun Lq aq w' hI hq => Lt.ex_field rfl (hI.fix 2 (Lt.notD rfl)) (by simp [go_sem]))
  | 9, _ => injection ho with ho; subst ho; exact Lt.Does.read rfl (fun Lq aq w' hI hq => Lt.wn0 rfl) (fun Lq aq w' hI hq => Lt.ex_load rfl (hI.pure 8 _ _ rfl (hq ⟨8, .data⟩ (by simp) rfl)) (by simp [go_sem]) (by obtain ⟨-, -, y0, y1, y2, y3, y4, y5⟩ := K.out w' hI.world; exact y2))
  | 10, _ => injection ho with ho; subst ho; exact Lt.Does.read rfl (fun Lq aq w' hI hq => Lt.wn0 rfl) (fun Lq aq w' hI hq => Lt.ex_field rfl (hI.fix 2 (Lt.notD rfl)) (by simp [go_sem]))
  | 11, _ => injection ho with ho; subst ho; exact Lt.Does.read rfl (fun Lq aq w' hI hq => Lt.wn0 rfl) (fun Lq aq w' hI hq => Lt.ex_load rfl (hI.pure 10 _ _ rfl (hq ⟨10, .data⟩ (by simp) rfl)) (by simp [go_sem]) (by obtain ⟨-, -, y0, y1, y2, y3, y4, y5⟩ := K.out w' hI.world; exact y3))
  | 12, _ => injection ho with ho; subst ho; exact Lt.Does.read rfl (fun Lq aq w' hI hq => Lt.wn0 rfl) (fun Lq aq w' hI hq => Lt.ex_mulI rfl (hI.pure 9 _ _ rfl (hq ⟨9, .data⟩ (by simp) rfl)) (hI.pure 11 _ _ rfl (hq ⟨11, .data⟩ (by simp) rfl)) rfl)
  | 13, _ => injection ho with ho; subst ho; exact Lt.Does.read rfl (fun Lq aq w' hI hq => Lt.wn0 rfl) (fun Lq aq w' hI hq => Lt.ex_addI rfl (hI.pure 7 _ _ rfl (hq ⟨7, .data⟩ (by simp) rfl)) (hI.pure 12 _ _ rfl (hq ⟨12, .data⟩ (by simp) rfl)) rfl)
  | 14, _ => injection ho with ho; subst ho; exact Lt.Does.read rfl (fun Lq aq w' hI hq => Lt.wn0 rfl) (fun Lq aq w' hI hq => Lt.ex_field rfl (hI.fix 2 (Lt.notD rfl)) (by simp [go_sem]))
  | 15, _ => injection ho with ho; subst ho; exact Lt.Does.read rfl (fun Lq aq w' hI hq => Lt.wn0 rfl) (fun Lq aq w' hI hq => Lt.ex_load rfl (hI.pure 14 _ _ rfl (hq ⟨14, .data⟩ (by simp) rfl)) (by simp [go_sem]) (by obtain ⟨-, -, y0, y1, y2, y3, y4, y5⟩ := K.out w' hI.world; exact y4))
  | 16, _ => injection ho with ho; subst ho; exact Lt.Does.read rfl (fun Lq aq w' hI hq => Lt.wn0 rfl) (fun Lq aq w' hI hq => Lt.ex_addI rfl (hI.pure 13 _ _ rfl (hq ⟨13, .data⟩ (by simp) rfl)) (hI.pure 15 _ _ rfl (hq ⟨15, .data⟩ (by simp) rfl)) rfl)
  | 17, _ => injection ho with ho; subst ho; exact Lt.Does.read rfl (fun Lq aq w' hI hq => Lt.wn0 rfl) (fun Lq aq w' hI hq => Lt.ex_move rfl (hI.fix 1 (Lt.notD rfl)))
  | 18, _ => injection ho with ho; subst ho; exact Lt.Does.read rfl (fun Lq aq w' hI hq => Lt.wn0 rfl) (fun Lq aq w' hI hq => Lt.ex_subI rfl (hI.pure 17 _ _ rfl (hq ⟨17, .data⟩ (by simp) rfl)) rfl rfl)
  | 19, _ => injection ho with ho; subst ho; exact Lt.Does.read rfl (fun Lq aq w' hI hq => Lt.wn0 rfl) (fun Lq aq w' hI hq => Lt.ex_field rfl (hI.fix 2 (Lt.notD rfl)) (by simp [go_sem]))
  | 20, _ => injection ho with ho; subst ho; exact Lt.Does.read rfl (fun Lq aq w' hI hq => Lt.wn0 rfl) (fun Lq aq w' hI hq => Lt.ex_load rfl (hI.pure 19 _ _ rfl (hq ⟨19, .data⟩ (by simp) rfl)) (by simp [go_sem]) (by obtain ⟨-, -, y0, y1, y2, y3, y4, y5⟩ := K.out w' hI.world; exact y1))
  | 21, _ => injection ho with ho; subst ho; exact Lt.Does.read rfl (fun Lq aq w' hI hq => Lt.wn0 rfl) (fun Lq aq w' hI hq => Lt.ex_addI rfl rfl (hI.pure 20 _ _ rfl (hq ⟨20, .data⟩ (by simp) rfl)) rfl)
  | 22, _ => injection ho with ho; subst ho; exact Lt.Does.read rfl (fun Lq aq w' hI hq => Lt.wn0 rfl) (fun Lq aq w' hI hq => Lt.ex_mulI rfl (hI.pure 18 _ _ rfl (hq ⟨18, .data⟩ (by simp) rfl)) (hI.pure 21 _ _ rfl (hq ⟨21, .data⟩ (by simp) rfl)) rfl)
  | 23, _ => injection ho with ho; subst ho; exact Lt.Does.read rfl (fun Lq aq w' hI hq => Lt.wn0 rfl) (fun Lq aq w' hI hq => Lt.ex_addI rfl (hI.pure 16 _ _ rfl (hq ⟨16, .data⟩ (by simp) rfl)) (hI.pure 22 _ _ rfl (hq ⟨22, .data⟩ (by simp) rfl)) rfl)
  | 24, _ => injection ho with ho; subst ho; exact Lt.Does.call rfl (fun Lq aq w' hI hq => Lt.wn0 rfl) (fun Lq aq w' hI hq => Lt.call3 rfl (hI.pure 0 _ _ rfl (hq ⟨0, .data⟩ (by simp) rfl)) (hI.pure 4 _ _ rfl (hq ⟨4, .data⟩ (by simp) rfl)) (hI.pure 23 _ _ rfl (hq ⟨23, .data⟩ (by simp) rfl)) rfl (by simp [go_sem])) (fun w1 hw1 => (PL.out w1).mono (by rintro e w2 ⟨rfl, hb⟩; exact ⟨rfl, hw1.trans (hb.mono hw1.size)⟩))
  | 25, _ => injection ho with ho; subst ho; exact Lt.Does.read rfl (fun Lq aq w' hI hq => Lt.wn0 rfl) (fun Lq aq w' hI hq => Lt.ex_extract rfl (hI.pure 24 _ _ rfl (hq ⟨24, .data⟩ (by simp) rfl)) rfl)
  | 26, _ => injection ho with ho; subst ho; exact Lt.Does.read rfl (fun Lq aq w' hI hq => Lt.wn0 rfl) (fun Lq aq w' hI hq => Lt.ex_extract rfl (hI.pure 24 _ _ rfl (hq ⟨24, .data⟩ (by simp) rfl)) rfl)
  | 27, _ => injection ho with ho; subst ho; exact Lt.Does.read rfl (fun Lq aq w' hI hq => Lt.wn0 rfl) (fun Lq aq w' hI hq => Lt.ex_assign rfl (hI.pure 25 _ _ rfl (hq ⟨25, .data⟩ (by simp) rfl)))
  | 28, _ => injection ho with ho; subst ho; exact Lt.Does.read rfl (fun Lq aq w' hI hq => Lt.wn0 rfl) (fun Lq aq w' hI hq => Lt.ex_assign rfl (hI.pure 26 _ _ rfl (hq ⟨26, .data⟩ (by simp) rfl)))
 case fin =>
  intro Lq a' w' hI hall
  have hw := hI.world
  obtain rfl : a' = ⟨#[.agg #[.int .i64 s0, .int .i64 s1, .int .i64 s2, .int .i64 s3, .int .i64 s4, .int .i64 s5], .int .i64 a, .pointer (some ⟨w.heap.size, 0, none⟩), undef, .int .i64 v, .int .i64 e, .agg #[.int .i64 s0, .int .i64 s1, .int .i64 s2, .int .i64 s3, .int .i64 s4, .int .i64 s5], .int .i64 a, .pointer (some ⟨w.heap.size, 0, none⟩), .int .i64 s0, .bool q, .pointer (some ⟨w.heap.size, 2, none⟩), .int .i64 s2, .int .i64 (IntKind.i64.wrap (8 + s2)), .pointer (some ⟨w.heap.size, 2, none⟩), .int .i64 s2, .pointer (some ⟨w.heap.size, 3, none⟩), .int .i64 s3, .int .i64 (IntKind.i64.wrap (s2 * s3)), .int .i64 (IntKind.i64.wrap ((IntKind.i64.wrap (8 + s2)) + (IntKind.i64.wrap (s2 * s3)))), .pointer (some ⟨w.heap.size, 4, none⟩), .int .i64 s4, .int .i64 (IntKind.i64.wrap ((IntKind.i64.wrap ((IntKind.i64.wrap (8 + s2)) + (IntKind.i64.wrap (s2 * s3)))) + s4)), .int .i64 a, .int .i64 (IntKind.i64.wrap (a - 1)), .pointer (some ⟨w.heap.size, 1, none⟩), .int .i64 s1, .int .i64 (IntKind.i64.wrap (3 + s1)), .int .i64 (IntKind.i64.wrap ((IntKind.i64.wrap (a - 1)) * (IntKind.i64.wrap (3 + s1)))), .int .i64 (IntKind.i64.wrap ((IntKind.i64.wrap ((IntKind.i64.wrap ((IntKind.i64.wrap (8 + s2)) + (IntKind.i64.wrap (s2 * s3)))) + s4)) + (IntKind.i64.wrap ((IntKind.i64.wrap (a - 1)) * (IntKind.i64.wrap (3 + s1)))))), .tuple #[.int .i64 v, .int .i64 e], .int .i64 v, .int .i64 e], []⟩ := Lt.act_eq a' [.agg #[.int .i64 s0, .int .i64 s1, .int .i64 s2, .int .i64 s3, .int .i64 s4, .int .i64 s5], .int .i64 a, .pointer (some ⟨w.heap.size, 0, none⟩), undef, .int .i64 v, .int .i64 e, .agg #[.int .i64 s0, .int .i64 s1, .int .i64 s2, .int .i64 s3, .int .i64 s4, .int .i64 s5], .int .i64 a, .pointer (some ⟨w.heap.size, 0, none⟩), .int .i64 s0, .bool q, .pointer (some ⟨w.heap.size, 2, none⟩), .int .i64 s2, .int .i64 (IntKind.i64.wrap (8 + s2)), .pointer (some ⟨w.heap.size, 2, none⟩), .int .i64 s2, .pointer (some ⟨w.heap.size, 3, none⟩), .int .i64 s3, .int .i64 (IntKind.i64.wrap (s2 * s3)), .int .i64 (IntKind.i64.wrap ((IntKind.i64.wrap (8 + s2)) + (IntKind.i64.wrap (s2 * s3)))), .pointer (some ⟨w.heap.size, 4, none⟩), .int .i64 s4, .int .i64 (IntKind.i64.wrap ((IntKind.i64.wrap ((IntKind.i64.wrap (8 + s2)) + (IntKind.i64.wrap (s2 * s3)))) + s4)), .int .i64 a, .int .i64 (IntKind.i64.wrap (a - 1)), .pointer (some ⟨w.heap.size, 1, none⟩), .int .i64 s1, .int .i64 (IntKind.i64.wrap (3 + s1)), .int .i64 (IntKind.i64.wrap ((IntKind.i64.wrap (a - 1)) * (IntKind.i64.wrap (3 + s1)))), .int .i64 (IntKind.i64.wrap ((IntKind.i64.wrap ((IntKind.i64.wrap ((IntKind.i64.wrap (8 + s2)) + (IntKind.i64.wrap (s2 * s3)))) + s4)) + (IntKind.i64.wrap ((IntKind.i64.wrap (a - 1)) * (IntKind.i64.wrap (3 + s1)))))), .tuple #[.int .i64 v, .int .i64 e], .int .i64 v, .int .i64 e] hI.df (by rw [hI.sz]; rfl) (fun k hk => by
   have hk' : k < 33 := hk
   match k, hk' with
   | 0, _ => exact hI.fix 0 (Lt.notD rfl)
   | 1, _ => exact hI.fix 1 (Lt.notD rfl)
   | 2, _ => exact hI.fix 2 (Lt.notD rfl)
   | 3, _ => exact hI.fix 3 (Lt.notD rfl)
   | 4, _ => exact hI.pure 27 4 _ rfl (hall 27 (by decide))
   | 5, _ => exact hI.pure 28 5 _ rfl (hall 28 (by decide))
   | 6, _ => exact hI.pure 0 6 _ rfl (hall 0 (by decide))
   | 7, _ => exact hI.pure 1 7 _ rfl (hall 1 (by decide))
   | 8, _ => exact hI.pure 2 8 _ rfl (hall 2 (by decide))
   | 9, _ => exact hI.pure 3 9 _ rfl (hall 3 (by decide))
   | 10, _ => exact hI.pure 4 10 _ rfl (hall 4 (by decide))
   | 11, _ => exact hI.pure 5 11 _ rfl (hall 5 (by decide))
   | 12, _ => exact hI.pure 6 12 _ rfl (hall 6 (by decide))
   | 13, _ => exact hI.pure 7 13 _ rfl (hall 7 (by decide))
   | 14, _ => exact hI.pure 8 14 _ rfl (hall 8 (by decide))
   | 15, _ => exact hI.pure 9 15 _ rfl (hall 9 (by decide))
   | 16, _ => exact hI.pure 10 16 _ rfl (hall 10 (by decide))
   | 17, _ => exact hI.pure 11 17 _ rfl (hall 11 (by decide))
   | 18, _ => exact hI.pure 12 18 _ rfl (hall 12 (by decide))
   | 19, _ => exact hI.pure 13 19 _ rfl (hall 13 (by decide))
   | 20, _ => exact hI.pure 14 20 _ rfl (hall 14 (by decide))
   | 21, _ => exact hI.pure 15 21 _ rfl (hall 15 (by decide))
   | 22, _ => exact hI.pure 16 22 _ rfl (hall 16 (by decide))
   | 23, _ => exact hI.pure 17 23 _ rfl (hall 17 (by decide))
   | 24, _ => exact hI.pure 18 24 _ rfl (hall 18 (by decide))
   | 25, _ => exact hI.pure 19 25 _ rfl (hall 19 (by decide))
   | 26, _ => exact hI.pure 20 26 _ rfl (hall 20 (by decide))
   | 27, _ => exact hI.pure 21 27 _ rfl (hall 21 (by decide))
   | 28, _ => exact hI.pure 22 28 _ rfl (hall 22 (by decide))
   | 29, _ => exact hI.pure 23 29 _ rfl (hall 23 (by decide))
   | 30, _ => exact hI.pure 24 30 _ rfl (hall 24 (by decide))
   | 31, _ => exact hI.pure 25 31 _ rfl (hall 25 (by decide))
   | 32, _ => exact hI.pure 26 32 _ rfl (hall 26 (by decide))
   | q + 33, hq => exact absurd hq (by omega))
  rename_i K2 hK2
  refine hK2 _ _ ?_
  go_wp2_with fail
  go_ret2
  exact ⟨rfl, (K.out _ hw).1⟩
end Shape
end
section
namespace Rom
open Hp
theorem rwithin_q {n lo hi : Int} {q : Bool} (h : decide (lo ≤ n ∧ n ≤ hi) = q) (w : World) : Calls Tryz.prog 56 #[.int .i64 n, .int .i64 lo, .int .i64 hi] w fun e w' => e = .returned (.bool q) ∧ w' = w := by
 rw [← h]; exact Shape.rwithin_any w
theorem robject_no {sh : Shp} (h : Shape.R5 sh.a sh.b sh.c sh.d sh.e) {i : Int} (ht : ¬ there sh i) (w : World) : Calls Tryz.prog 70 #[sh.val, .int .i64 i] w fun e w' => e = .returned (.tuple #[.int .i64 0, .int .i64 2]) ∧ Below w.heap.size w w' :=
 Shape.robject_of (q := false) (hide (fun w1 => rwithin_q (decide_eq_false ht) w1)) (hide (fun w1 => Shape.place_arg h _ w1)) w
theorem robject_yes {sh : Shp} (h : Shape.R5 sh.a sh.b sh.c sh.d sh.e) {i : Int} (ht : there sh i) (w : World) : Calls Tryz.prog 70 #[sh.val, .int .i64 i] w fun e w' => e = .returned (.tuple #[.int .i64 (headAt sh i), .int .i64 0]) ∧ Below w.heap.size w w' := by
 refine Shape.robject_of (q := true) (hide (fun w1 => rwithin_q (decide_eq_true ht) w1)) (hide (fun w1 => ?_)) w
 have e : IntKind.i64.wrap (IntKind.i64.wrap (IntKind.i64.wrap (IntKind.i64.wrap (8 + sh.c) + IntKind.i64.wrap (sh.c * sh.d)) + sh.e) + IntKind.i64.wrap (IntKind.i64.wrap (i - 1) * IntKind.i64.wrap (3 + sh.b))) = headAt sh i := by
  unfold headAt
  rw [if_pos ht]
  obtain ⟨⟨a1, a2⟩, ⟨b1, b2⟩, ⟨c1, c2⟩, ⟨d1, d2⟩, f1, f2⟩ := h
  have p1 : 0 ≤ sh.c * sh.d ∧ sh.c * sh.d ≤ 7 * 8 := ⟨Int.mul_nonneg (by omega) (by omega), Int.mul_le_mul c2 d2 (by omega) (by omega)⟩
  have p2 : 0 ≤ (i - 1) * (3 + sh.b) ∧ (i - 1) * (3 + sh.b) ≤ 64 * 7 := ⟨Int.mul_nonneg (by have := ht.1; omega) (by omega), Int.mul_le_mul (by have := ht.2; omega) (by omega) (by omega) (by omega)⟩
  have i1 := ht.1
  have i2 := ht.2
  obtain ⟨p, hp⟩ : ∃ p, sh.c * sh.d = p := ⟨_, rfl⟩
  obtain ⟨q, hq⟩ : ∃ q, (i - 1) * (3 + sh.b) = q := ⟨_, rfl⟩
  rw [hp] at p1
  rw [hq] at p2
  rw [Shape.wI (x := i - 1) (by omega) (by omega), Shape.wI (x := 3 + sh.b) (by omega) (by omega), Shape.wI (x := 8 + sh.c) (by omega) (by omega), hp, hq, Shape.wI (x := p) (by omega) (by omega), Shape.wI (x := q) (by omega) (by omega), Shape.wI (x := 8 + sh.c + p) (by omega) (by omega), Shape.wI (x := 8 + sh.c + p + sh.e) (by omega) (by omega), Shape.wI (by omega) (by omega)]
 have K := Shape.place_ok (s5 := sh.f) h (IntKind.i64.wrap (IntKind.i64.wrap (IntKind.i64.wrap (IntKind.i64.wrap (8 + sh.c) + IntKind.i64.wrap (sh.c * sh.d)) + sh.e) + IntKind.i64.wrap (IntKind.i64.wrap (i - 1) * IntKind.i64.wrap (3 + sh.b)))) w1
 rw [e] at K ⊢
 exact K
theorem rhead_any {sh : Shp} (h : Shape.R5 sh.a sh.b sh.c sh.d sh.e) (i : Int) (w : World) : Calls Tryz.prog 38 #[sh.val, .int .i64 i] w fun e w' => e = .returned (.int .i64 (headAt sh i)) ∧ Below w.heap.size w w' := by
 by_cases ht : there sh i
 ·have OB := hide (fun w1 : World => robject_yes h ht w1)
  obtain ⟨p, hp⟩ : ∃ p, headAt sh i = p := ⟨_, rfl⟩
  rw [hp] at OB ⊢
  clear h ht hp
  obtain ⟨s0, s1, s2, s3, s4, s5⟩ := sh
  simp only [Shp.val] at OB ⊢
  obtain ⟨W0, hW0, B0, K⟩ := Shape.box w s0 s1 s2 s3 s4 s5
  have HB := hide B0
  obtain ⟨-, l0, x0, x1, x2, x3, x4, x5⟩ := K.out W0 (Below.refl _ _)
  clear B0
  go_enter Tryz.func38, Tryz.ntmps38
  go_wp2_with (go_at_call 70; refine (OB.out _).mono ?_; rintro e w1 ⟨rfl, hb1⟩; have HB1 := hide (HB.out.trans (hb1.mono HB.out.size)); clear hb1)
  go_ret
  exact ⟨rfl, HB1.out⟩
 ·have OB := hide (fun w1 : World => robject_no h ht w1)
  rw [show headAt sh i = -1 from by simp [headAt, ht]]
  clear h ht
  obtain ⟨s0, s1, s2, s3, s4, s5⟩ := sh
  simp only [Shp.val] at OB ⊢
  obtain ⟨W0, hW0, B0, K⟩ := Shape.box w s0 s1 s2 s3 s4 s5
  have HB := hide B0
  obtain ⟨-, l0, x0, x1, x2, x3, x4, x5⟩ := K.out W0 (Below.refl _ _)
  clear B0
  go_enter Tryz.func38, Tryz.ntmps38
  go_wp2_with (go_at_call 70; refine (OB.out _).mono ?_; rintro e w1 ⟨rfl, hb1⟩; have HB1 := hide (HB.out.trans (hb1.mono HB.out.size)); clear hb1)
  go_ret
  exact ⟨rfl, HB1.out⟩
theorem head_cases {sh : Shp} (h : Shape.R5 sh.a sh.b sh.c sh.d sh.e) (i : Int) : (there sh i ∧ 8 ≤ headAt sh i ∧ headAt sh i ≤ 1000 ∧ linkAt sh i = headAt sh i + 1) ∨ (¬ there sh i ∧ headAt sh i = -1 ∧ linkAt sh i = -1) := by
 by_cases ht : there sh i
 ·refine .inl ⟨ht, ?_⟩
  unfold headAt linkAt
  rw [if_pos ht, if_pos ht]
  obtain ⟨⟨a1, a2⟩, ⟨b1, b2⟩, ⟨c1, c2⟩, ⟨d1, d2⟩, f1, f2⟩ := h
  have p1 : 0 ≤ sh.c * sh.d ∧ sh.c * sh.d ≤ 7 * 8 := ⟨Int.mul_nonneg (by omega) (by omega), Int.mul_le_mul c2 d2 (by omega) (by omega)⟩
  have p2 : 0 ≤ (i - 1) * (3 + sh.b) ∧ (i - 1) * (3 + sh.b) ≤ 64 * 7 := ⟨Int.mul_nonneg (by have := ht.1; omega) (by omega), Int.mul_le_mul (by have := ht.2; omega) (by omega) (by omega) (by omega)⟩
  omega
 ·exact .inr ⟨ht, by simp [headAt, ht], by simp [linkAt, ht]⟩
def besideAt (sh : Shp) (i k : Int) : Int := if there sh i then headAt sh i + k else -1
theorem beside_link {sh : Shp} (h : Shape.R5 sh.a sh.b sh.c sh.d sh.e) (i : Int) : besideAt sh i 1 = linkAt sh i := by
 unfold besideAt
 rcases head_cases h i with ⟨h1, _, _, h4⟩ | ⟨h1, h2, h3⟩
 ·rw [if_pos h1, h4]
 ·rw [if_neg h1, h3]
theorem beside_slot {sh : Shp} (h : Shape.R5 sh.a sh.b sh.c sh.d sh.e) {i s : Int} (hs : slotIn sh i s) : besideAt sh i (3 + s) = slotAt sh i s := by
 unfold besideAt
 rw [if_pos hs.1, slot_bd h hs]
 omega
theorem rbeside_any {sh : Shp} (h : Shape.R5 sh.a sh.b sh.c sh.d sh.e) (i k : Int) (hk : 0 ≤ k ∧ k ≤ 100) (w : World) : Calls Tryz.prog 88 #[sh.val, .int .i64 i, .int .i64 k] w fun e w' => e = .returned (.int .i64 (besideAt sh i k)) ∧ Below w.heap.size w w' := by
 have OB := hide (fun w1 : World => rhead_any h i w1)
 rcases head_cases h i with ⟨h1, h2, h3, h4⟩ | ⟨h1, h2, h3⟩
 ·rw [show besideAt sh i k = headAt sh i + k from by unfold besideAt; rw [if_pos h1]]
  obtain ⟨p, hp⟩ : ∃ p, headAt sh i = p := ⟨_, rfl⟩
  rw [hp] at OB h2 h3 ⊢
  clear h h1 hp h4
  obtain ⟨s0, s1, s2, s3, s4, s5⟩ := sh
  simp only [Shp.val] at OB ⊢
  have g1 : wrap64 (p + k) = p + k := by unfold wrap64; omega
  have g2 : decide (p < 0) = false := by simp; omega
  obtain ⟨W0, hW0, B0, K⟩ := Shape.box w s0 s1 s2 s3 s4 s5
  have HB := hide B0
  obtain ⟨-, l0, x0, x1, x2, x3, x4, x5⟩ := K.out W0 (Below.refl _ _)
  clear B0
  go_enter Tryz.func88, Tryz.ntmps88
  go_wp2_with (go_at_call 38; refine (OB.out _).mono ?_; rintro e w1 ⟨rfl, hb1⟩; have HB1 := hide (HB.out.trans (hb1.mono HB.out.size)); clear hb1)
  go_ret
  exact ⟨rfl, HB1.out⟩
 ·rw [show besideAt sh i k = -1 from by unfold besideAt; rw [if_neg h1]]
  rw [h2] at OB
  clear h h1 h2 h3
  obtain ⟨s0, s1, s2, s3, s4, s5⟩ := sh
  simp only [Shp.val] at OB ⊢
  obtain ⟨W0, hW0, B0, K⟩ := Shape.box w s0 s1 s2 s3 s4 s5
  have HB := hide B0
  obtain ⟨-, l0, x0, x1, x2, x3, x4, x5⟩ := K.out W0 (Below.refl _ _)
  clear B0
  go_enter Tryz.func88, Tryz.ntmps88
  go_wp2_with (go_at_call 38; refine (OB.out _).mono ?_; rintro e w1 ⟨rfl, hb1⟩; have HB1 := hide (HB.out.trans (hb1.mono HB.out.size)); clear hb1)
  go_ret
  exact ⟨rfl, HB1.out⟩
end Rom
end
end Go.Proofs.YtppgbndoijppnaaGreat
