/-
  Shape: Root and Slot of the package, for every shape and numbers.
-/
import Derived.Test.YtbffhfmhjnflbaaShapeE
import Derived.Test.YtbffhfmhjnflbaaLtR
namespace Go.Proofs.Ytbffhfmhjnflbaa
open Go.RowKit
set_option linter.unusedVariables false
set_option linter.unusedSimpArgs false
set_option linter.unnecessarySimpa false
set_option maxRecDepth 20000
namespace Shape
theorem rng {w' : World} {b : Nat} {v0 v1 v2 v3 v4 v5 : Value} (y0 : w'.cell? ⟨b, 0, none⟩ = some v0) (y1 : w'.cell? ⟨b, 1, none⟩ = some v1) (y2 : w'.cell? ⟨b, 2, none⟩ = some v2) (y3 : w'.cell? ⟨b, 3, none⟩ = some v3) (y4 : w'.cell? ⟨b, 4, none⟩ = some v4) (y5 : w'.cell? ⟨b, 5, none⟩ = some v5) : w'.rangeAt b 0 [v0, v1, v2, v3, v4, v5] := by
  intro j v hv
  match j, hv with
  | 0, hv => cases hv; simpa using y0
  | 1, hv => cases hv; simpa using y1
  | 2, hv => cases hv; simpa using y2
  | 3, hv => cases hv; simpa using y3
  | 4, hv => cases hv; simpa using y4
  | 5, hv => cases hv; simpa using y5

theorem root_bad {s0 s1 s2 s3 s4 s5 : Int} {a b : Int} (H : ¬ R5 s0 s1 s2 s3 s4) (w : World) : Calls Try.prog 81 #[.agg #[.int .i64 s0, .int .i64 s1, .int .i64 s2, .int .i64 s3, .int .i64 s4, .int .i64 s5], .int .i64 a, .int .i64 b] w fun e w' => e = .returned (.tuple #[.int .i64 0, .int .i64 120]) ∧ Below w.heap.size w w' := by
  have HH := hide H
  clear H
  obtain ⟨q1, T1⟩ : ∃ q1, Hid (∀ w1 : World, Calls Try.prog 96 #[.int .i64 a, .int .i64 s2] w1 fun e w' => e = .returned (.bool q1) ∧ w' = w1) := ⟨_, fun w1 => isn_any w1⟩
  obtain ⟨q2, T2⟩ : ∃ q2, Hid (∀ w1 : World, Calls Try.prog 96 #[.int .i64 b, .int .i64 s3] w1 fun e w' => e = .returned (.bool q2) ∧ w' = w1) := ⟨_, fun w1 => isn_any w1⟩
  obtain ⟨W0, hW0, B0, K⟩ := box w s0 s1 s2 s3 s4 s5
  have HB := hide B0
  obtain ⟨-, l0, x0, x1, x2, x3, x4, x5⟩ := K.out W0 (Below.refl _ _)
  clear B0
  cases q1
  · go_enter Try.func81, Try.ntmps81
    go_wp2_with fail
    refine Lt.region (ks := [(0, 9), (1, 10), (2, 11), (3, 12), (4, 13), (5, 14), (6, 15), (7, 16), (8, 17), (9, 18), (10, 19), (11, 20), (12, 8)]) (vals := fun iv => match iv with
        | 0 => .agg #[.int .i64 s0, .int .i64 s1, .int .i64 s2, .int .i64 s3, .int .i64 s4, .int .i64 s5]
        | 1 => .int .i64 a
        | 2 => .pointer (some ⟨w.heap.size, 2, none⟩)
        | 3 => .int .i64 s2
        | 4 => .bool false
        | 5 => .bool false
        | 6 => undef
        | 7 => undef
        | 8 => undef
        | 9 => undef
        | 10 => .bool false
        | 11 => .int .i64 120
        | 12 => .int .i64 120
        | _ => undef) (WI := fun w' => Below W0.heap.size W0 w') (by kernel_rfl) ?bk rfl ?dd (⟨rfl, rfl, rfl, Nat.le_refl _, fun _ _ => rfl⟩) ?does ?fin
    case bk =>
      intro iq oq ho
      have hiq : iq < 13 := by have := (Array.getElem?_eq_some_iff.1 ho).1; simpa using this
      match iq, hiq with
      | 0, _ | 1, _ | 2, _ | 3, _ | 4, _ | 5, _ | 6, _ | 7, _ | 8, _ | 9, _ | 10, _ | 11, _ | 12, _ => injection ho with ho; subst ho; simp [Region.binds]
    case dd =>
      intro k hk
      have hk' : k < 28 := by
        simp [Lt.D] at hk
        omega
      simpa using hk'
    case does =>
      intro iq oq ho
      have hiq : iq < 13 := by have := (Array.getElem?_eq_some_iff.1 ho).1; simpa using this
      match iq, hiq with
      | 0, _ => injection ho with ho; subst ho; exact Lt.Does.read rfl (fun Lq aq w' hI hq => Lt.wn0 rfl) (fun Lq aq w' hI hq => Lt.ex_load_row rfl (hI.fix 3 (Lt.notD rfl)) (by obtain ⟨-, -, y0, y1, y2, y3, y4, y5⟩ := K.out w' hI.world; exact rng y0 y1 y2 y3 y4 y5) (by kernel_rfl) (by kernel_rfl))
      | 1, _ => injection ho with ho; subst ho; exact Lt.Does.read rfl (fun Lq aq w' hI hq => Lt.wn0 rfl) (fun Lq aq w' hI hq => Lt.ex_move rfl (hI.fix 1 (Lt.notD rfl)))
      | 2, _ => injection ho with ho; subst ho; exact Lt.Does.read rfl (fun Lq aq w' hI hq => Lt.wn0 rfl) (fun Lq aq w' hI hq => Lt.ex_field rfl (hI.fix 3 (Lt.notD rfl)) (by simp [go_sem]))
      | 3, _ => injection ho with ho; subst ho; exact Lt.Does.read rfl (fun Lq aq w' hI hq => Lt.wn0 rfl) (fun Lq aq w' hI hq => Lt.ex_load rfl (hI.pure 2 _ _ rfl (hq ⟨2, .data⟩ (by simp) rfl)) (by simp [go_sem]) (by obtain ⟨-, -, y0, y1, y2, y3, y4, y5⟩ := K.out w' hI.world; exact y2))
      | 4, _ => injection ho with ho; subst ho; exact Lt.Does.call rfl (fun Lq aq w' hI hq => Lt.wn0 rfl) (fun Lq aq w' hI hq => Lt.call2 rfl (hI.pure 1 _ _ rfl (hq ⟨1, .data⟩ (by simp) rfl)) (hI.pure 3 _ _ rfl (hq ⟨3, .data⟩ (by simp) rfl)) rfl (by simp [go_sem])) (fun w1 hw1 => (T1.out w1).mono (by rintro e w2 ⟨rfl, hw2⟩; obtain rfl := hw2.symm; exact ⟨rfl, hw1⟩))
      | 5, _ => injection ho with ho; subst ho; exact Lt.Does.read rfl (fun Lq aq w' hI hq => Lt.wn0 rfl) (fun Lq aq w' hI hq => Lt.ex_move rfl (hI.pure 4 _ _ rfl (hq ⟨4, .data⟩ (by simp) rfl)))
      | 6, _ => injection ho with ho; subst ho; exact .skip rfl (fun Lq aq w' hI hq => Lt.wnG (d := 14) (c := false) rfl rfl (hI.pure 5 _ _ rfl (hq ⟨5, .guard⟩ (by simp) rfl)) rfl) rfl
      | 7, _ => injection ho with ho; subst ho; exact .skip rfl (fun Lq aq w' hI hq => Lt.wnG (d := 14) (c := false) rfl rfl (hI.pure 5 _ _ rfl (hq ⟨5, .guard⟩ (by simp) rfl)) rfl) rfl
      | 8, _ => injection ho with ho; subst ho; exact .skip rfl (fun Lq aq w' hI hq => Lt.wnG (d := 14) (c := false) rfl rfl (hI.pure 5 _ _ rfl (hq ⟨5, .guard⟩ (by simp) rfl)) rfl) rfl
      | 9, _ => injection ho with ho; subst ho; exact .skip rfl (fun Lq aq w' hI hq => Lt.wnG (d := 14) (c := false) rfl rfl (hI.pure 5 _ _ rfl (hq ⟨5, .guard⟩ (by simp) rfl)) rfl) rfl
      | 10, _ => injection ho with ho; subst ho; exact Lt.Does.read rfl (fun Lq aq w' hI hq => Lt.wn0 rfl) (fun Lq aq w' hI hq => Lt.ex_pick (b := false) rfl (hI.pure 5 _ _ rfl (hq ⟨5, .data⟩ (by simp) rfl)) (by first | exact rfl | simpa using rfl))
      | 11, _ => injection ho with ho; subst ho; exact Lt.Does.call rfl (fun Lq aq w' hI hq => Lt.wn0 rfl) (fun Lq aq w' hI hq => Lt.call2 rfl (hI.pure 0 _ _ rfl (hq ⟨0, .data⟩ (by simp) rfl)) (hI.pure 10 _ _ rfl (hq ⟨10, .data⟩ (by simp) rfl)) rfl (by simp [go_sem])) (fun w1 hw1 => (cw_bad HH.out _ w1).mono (by rintro e w2 ⟨rfl, hb⟩; exact ⟨rfl, hw1.trans (hb.mono hw1.size)⟩))
      | 12, _ => injection ho with ho; subst ho; exact Lt.Does.read rfl (fun Lq aq w' hI hq => Lt.wn0 rfl) (fun Lq aq w' hI hq => Lt.ex_assign rfl (hI.pure 11 _ _ rfl (hq ⟨11, .data⟩ (by simp) rfl)))
    case fin =>
      intro Lq a' w' hI hall
      have hw := hI.world
      obtain rfl : a' = ⟨#[.agg #[.int .i64 s0, .int .i64 s1, .int .i64 s2, .int .i64 s3, .int .i64 s4, .int .i64 s5], .int .i64 a, .int .i64 b, .pointer (some ⟨w.heap.size, 0, none⟩), undef, undef, .int .i64 0, .int .i64 0, .int .i64 120, .agg #[.int .i64 s0, .int .i64 s1, .int .i64 s2, .int .i64 s3, .int .i64 s4, .int .i64 s5], .int .i64 a, .pointer (some ⟨w.heap.size, 2, none⟩), .int .i64 s2, .bool false, .bool false, undef, undef, undef, undef, .bool false, .int .i64 120, undef, undef, undef, undef, undef, undef, undef], []⟩ := Lt.act_eq a' [.agg #[.int .i64 s0, .int .i64 s1, .int .i64 s2, .int .i64 s3, .int .i64 s4, .int .i64 s5], .int .i64 a, .int .i64 b, .pointer (some ⟨w.heap.size, 0, none⟩), undef, undef, .int .i64 0, .int .i64 0, .int .i64 120, .agg #[.int .i64 s0, .int .i64 s1, .int .i64 s2, .int .i64 s3, .int .i64 s4, .int .i64 s5], .int .i64 a, .pointer (some ⟨w.heap.size, 2, none⟩), .int .i64 s2, .bool false, .bool false, undef, undef, undef, undef, .bool false, .int .i64 120, undef, undef, undef, undef, undef, undef, undef] hI.df (by rw [hI.sz]; rfl) (fun k hk => by
        have hk' : k < 28 := hk
        match k, hk' with
        | 0, _ => exact hI.fix 0 (Lt.notD rfl)
        | 1, _ => exact hI.fix 1 (Lt.notD rfl)
        | 2, _ => exact hI.fix 2 (Lt.notD rfl)
        | 3, _ => exact hI.fix 3 (Lt.notD rfl)
        | 4, _ => exact hI.fix 4 (Lt.notD rfl)
        | 5, _ => exact hI.fix 5 (Lt.notD rfl)
        | 6, _ => exact hI.fix 6 (Lt.notD rfl)
        | 7, _ => exact hI.fix 7 (Lt.notD rfl)
        | 8, _ => exact hI.pure 12 8 _ rfl (hall 12 (by decide))
        | 9, _ => exact hI.pure 0 9 _ rfl (hall 0 (by decide))
        | 10, _ => exact hI.pure 1 10 _ rfl (hall 1 (by decide))
        | 11, _ => exact hI.pure 2 11 _ rfl (hall 2 (by decide))
        | 12, _ => exact hI.pure 3 12 _ rfl (hall 3 (by decide))
        | 13, _ => exact hI.pure 4 13 _ rfl (hall 4 (by decide))
        | 14, _ => exact hI.pure 5 14 _ rfl (hall 5 (by decide))
        | 15, _ => exact hI.pure 6 15 _ rfl (hall 6 (by decide))
        | 16, _ => exact hI.pure 7 16 _ rfl (hall 7 (by decide))
        | 17, _ => exact hI.pure 8 17 _ rfl (hall 8 (by decide))
        | 18, _ => exact hI.pure 9 18 _ rfl (hall 9 (by decide))
        | 19, _ => exact hI.pure 10 19 _ rfl (hall 10 (by decide))
        | 20, _ => exact hI.pure 11 20 _ rfl (hall 11 (by decide))
        | 21, _ => exact hI.fix 21 (Lt.notD rfl)
        | 22, _ => exact hI.fix 22 (Lt.notD rfl)
        | 23, _ => exact hI.fix 23 (Lt.notD rfl)
        | 24, _ => exact hI.fix 24 (Lt.notD rfl)
        | 25, _ => exact hI.fix 25 (Lt.notD rfl)
        | 26, _ => exact hI.fix 26 (Lt.notD rfl)
        | 27, _ => exact hI.fix 27 (Lt.notD rfl)
        | q + 28, hq => exact absurd hq (by omega))
      rename_i K2 hK2
      refine hK2 _ _ ?_
      go_wp2_with fail
      go_ret2
      exact ⟨rfl, (K.out _ hw).1⟩
  · go_enter Try.func81, Try.ntmps81
    go_wp2_with fail
    go_region_held (fun w' => w'.cell? ⟨w.heap.size, 0, none⟩ = some (.int .i64 s0) ∧ w'.cell? ⟨w.heap.size, 1, none⟩ = some (.int .i64 s1) ∧ w'.cell? ⟨w.heap.size, 2, none⟩ = some (.int .i64 s2) ∧ w'.cell? ⟨w.heap.size, 3, none⟩ = some (.int .i64 s3) ∧ w'.cell? ⟨w.heap.size, 4, none⟩ = some (.int .i64 s4) ∧ w'.cell? ⟨w.heap.size, 5, none⟩ = some (.int .i64 s5)) (go_keep) (first | (go_at_call 96; first | (have hz := GU.out; clear hz; refine (T2.out _).mono ?_; rintro e wq ⟨rfl, hwq⟩; obtain rfl := hwq.symm) | (refine (T1.out _).mono ?_; rintro e wq ⟨rfl, hwq⟩; obtain rfl := hwq.symm; have GU := hide True.intro)) | (go_at_call 95; refine (cw_bad HH.out _ _).mono ?_; rintro e w1 ⟨rfl, hb1⟩; have HB1 := hide (show Below W0.heap.size W0 w1 from ⟨hb1.os, hb1.tape, hb1.output, hb1.size, hb1.block⟩); clear hb1; obtain ⟨-, m1, y10, y11, y12, y13, y14, y15⟩ := K.out w1 HB1.out))
    all_goals go_wp2_with fail
    all_goals go_ret2
    all_goals exact ⟨rfl, (K.out _ HB1.out).1⟩

theorem root_arg1 {s0 s1 s2 s3 s4 s5 : Int} {a b : Int} (H : R5 s0 s1 s2 s3 s4) (ha : ¬ (0 ≤ a ∧ a < s2)) (w : World) : Calls Try.prog 81 #[.agg #[.int .i64 s0, .int .i64 s1, .int .i64 s2, .int .i64 s3, .int .i64 s4, .int .i64 s5], .int .i64 a, .int .i64 b] w fun e w' => e = .returned (.tuple #[.int .i64 0, .int .i64 2]) ∧ Below w.heap.size w w' := by
  have HH := hide H
  have T1 := hide (fun w1 : World => isn_f ha w1)
  clear H ha
  obtain ⟨W0, hW0, B0, K⟩ := box w s0 s1 s2 s3 s4 s5
  have HB := hide B0
  obtain ⟨-, l0, x0, x1, x2, x3, x4, x5⟩ := K.out W0 (Below.refl _ _)
  clear B0
  go_enter Try.func81, Try.ntmps81
  go_wp2_with fail
  refine Lt.region (ks := [(0, 9), (1, 10), (2, 11), (3, 12), (4, 13), (5, 14), (6, 15), (7, 16), (8, 17), (9, 18), (10, 19), (11, 20), (12, 8)]) (vals := fun iv => match iv with
      | 0 => .agg #[.int .i64 s0, .int .i64 s1, .int .i64 s2, .int .i64 s3, .int .i64 s4, .int .i64 s5]
      | 1 => .int .i64 a
      | 2 => .pointer (some ⟨w.heap.size, 2, none⟩)
      | 3 => .int .i64 s2
      | 4 => .bool false
      | 5 => .bool false
      | 6 => undef
      | 7 => undef
      | 8 => undef
      | 9 => undef
      | 10 => .bool false
      | 11 => .int .i64 2
      | 12 => .int .i64 2
      | _ => undef) (WI := fun w' => Below W0.heap.size W0 w') (by kernel_rfl) ?bk rfl ?dd (⟨rfl, rfl, rfl, Nat.le_refl _, fun _ _ => rfl⟩) ?does ?fin
  case bk =>
    intro iq oq ho
    have hiq : iq < 13 := by have := (Array.getElem?_eq_some_iff.1 ho).1; simpa using this
    match iq, hiq with
    | 0, _ | 1, _ | 2, _ | 3, _ | 4, _ | 5, _ | 6, _ | 7, _ | 8, _ | 9, _ | 10, _ | 11, _ | 12, _ => injection ho with ho; subst ho; simp [Region.binds]
  case dd =>
    intro k hk
    have hk' : k < 28 := by
      simp [Lt.D] at hk
      omega
    simpa using hk'
  case does =>
    intro iq oq ho
    have hiq : iq < 13 := by have := (Array.getElem?_eq_some_iff.1 ho).1; simpa using this
    match iq, hiq with
    | 0, _ => injection ho with ho; subst ho; exact Lt.Does.read rfl (fun Lq aq w' hI hq => Lt.wn0 rfl) (fun Lq aq w' hI hq => Lt.ex_load_row rfl (hI.fix 3 (Lt.notD rfl)) (by obtain ⟨-, -, y0, y1, y2, y3, y4, y5⟩ := K.out w' hI.world; exact rng y0 y1 y2 y3 y4 y5) (by kernel_rfl) (by kernel_rfl))
    | 1, _ => injection ho with ho; subst ho; exact Lt.Does.read rfl (fun Lq aq w' hI hq => Lt.wn0 rfl) (fun Lq aq w' hI hq => Lt.ex_move rfl (hI.fix 1 (Lt.notD rfl)))
    | 2, _ => injection ho with ho; subst ho; exact Lt.Does.read rfl (fun Lq aq w' hI hq => Lt.wn0 rfl) (fun Lq aq w' hI hq => Lt.ex_field rfl (hI.fix 3 (Lt.notD rfl)) (by simp [go_sem]))
    | 3, _ => injection ho with ho; subst ho; exact Lt.Does.read rfl (fun Lq aq w' hI hq => Lt.wn0 rfl) (fun Lq aq w' hI hq => Lt.ex_load rfl (hI.pure 2 _ _ rfl (hq ⟨2, .data⟩ (by simp) rfl)) (by simp [go_sem]) (by obtain ⟨-, -, y0, y1, y2, y3, y4, y5⟩ := K.out w' hI.world; exact y2))
    | 4, _ => injection ho with ho; subst ho; exact Lt.Does.call rfl (fun Lq aq w' hI hq => Lt.wn0 rfl) (fun Lq aq w' hI hq => Lt.call2 rfl (hI.pure 1 _ _ rfl (hq ⟨1, .data⟩ (by simp) rfl)) (hI.pure 3 _ _ rfl (hq ⟨3, .data⟩ (by simp) rfl)) rfl (by simp [go_sem])) (fun w1 hw1 => (T1.out w1).mono (by rintro e w2 ⟨rfl, hw2⟩; obtain rfl := hw2.symm; exact ⟨rfl, hw1⟩))
    | 5, _ => injection ho with ho; subst ho; exact Lt.Does.read rfl (fun Lq aq w' hI hq => Lt.wn0 rfl) (fun Lq aq w' hI hq => Lt.ex_move rfl (hI.pure 4 _ _ rfl (hq ⟨4, .data⟩ (by simp) rfl)))
    | 6, _ => injection ho with ho; subst ho; exact .skip rfl (fun Lq aq w' hI hq => Lt.wnG (d := 14) (c := false) rfl rfl (hI.pure 5 _ _ rfl (hq ⟨5, .guard⟩ (by simp) rfl)) rfl) rfl
    | 7, _ => injection ho with ho; subst ho; exact .skip rfl (fun Lq aq w' hI hq => Lt.wnG (d := 14) (c := false) rfl rfl (hI.pure 5 _ _ rfl (hq ⟨5, .guard⟩ (by simp) rfl)) rfl) rfl
    | 8, _ => injection ho with ho; subst ho; exact .skip rfl (fun Lq aq w' hI hq => Lt.wnG (d := 14) (c := false) rfl rfl (hI.pure 5 _ _ rfl (hq ⟨5, .guard⟩ (by simp) rfl)) rfl) rfl
    | 9, _ => injection ho with ho; subst ho; exact .skip rfl (fun Lq aq w' hI hq => Lt.wnG (d := 14) (c := false) rfl rfl (hI.pure 5 _ _ rfl (hq ⟨5, .guard⟩ (by simp) rfl)) rfl) rfl
    | 10, _ => injection ho with ho; subst ho; exact Lt.Does.read rfl (fun Lq aq w' hI hq => Lt.wn0 rfl) (fun Lq aq w' hI hq => Lt.ex_pick (b := false) rfl (hI.pure 5 _ _ rfl (hq ⟨5, .data⟩ (by simp) rfl)) (by first | exact rfl | simpa using rfl))
    | 11, _ => injection ho with ho; subst ho; exact Lt.Does.call rfl (fun Lq aq w' hI hq => Lt.wn0 rfl) (fun Lq aq w' hI hq => Lt.call2 rfl (hI.pure 0 _ _ rfl (hq ⟨0, .data⟩ (by simp) rfl)) (hI.pure 10 _ _ rfl (hq ⟨10, .data⟩ (by simp) rfl)) rfl (by simp [go_sem])) (fun w1 hw1 => (cw_arg HH.out w1).mono (by rintro e w2 ⟨rfl, hb⟩; exact ⟨rfl, hw1.trans (hb.mono hw1.size)⟩))
    | 12, _ => injection ho with ho; subst ho; exact Lt.Does.read rfl (fun Lq aq w' hI hq => Lt.wn0 rfl) (fun Lq aq w' hI hq => Lt.ex_assign rfl (hI.pure 11 _ _ rfl (hq ⟨11, .data⟩ (by simp) rfl)))
  case fin =>
    intro Lq a' w' hI hall
    have hw := hI.world
    obtain rfl : a' = ⟨#[.agg #[.int .i64 s0, .int .i64 s1, .int .i64 s2, .int .i64 s3, .int .i64 s4, .int .i64 s5], .int .i64 a, .int .i64 b, .pointer (some ⟨w.heap.size, 0, none⟩), undef, undef, .int .i64 0, .int .i64 0, .int .i64 2, .agg #[.int .i64 s0, .int .i64 s1, .int .i64 s2, .int .i64 s3, .int .i64 s4, .int .i64 s5], .int .i64 a, .pointer (some ⟨w.heap.size, 2, none⟩), .int .i64 s2, .bool false, .bool false, undef, undef, undef, undef, .bool false, .int .i64 2, undef, undef, undef, undef, undef, undef, undef], []⟩ := Lt.act_eq a' [.agg #[.int .i64 s0, .int .i64 s1, .int .i64 s2, .int .i64 s3, .int .i64 s4, .int .i64 s5], .int .i64 a, .int .i64 b, .pointer (some ⟨w.heap.size, 0, none⟩), undef, undef, .int .i64 0, .int .i64 0, .int .i64 2, .agg #[.int .i64 s0, .int .i64 s1, .int .i64 s2, .int .i64 s3, .int .i64 s4, .int .i64 s5], .int .i64 a, .pointer (some ⟨w.heap.size, 2, none⟩), .int .i64 s2, .bool false, .bool false, undef, undef, undef, undef, .bool false, .int .i64 2, undef, undef, undef, undef, undef, undef, undef] hI.df (by rw [hI.sz]; rfl) (fun k hk => by
      have hk' : k < 28 := hk
      match k, hk' with
      | 0, _ => exact hI.fix 0 (Lt.notD rfl)
      | 1, _ => exact hI.fix 1 (Lt.notD rfl)
      | 2, _ => exact hI.fix 2 (Lt.notD rfl)
      | 3, _ => exact hI.fix 3 (Lt.notD rfl)
      | 4, _ => exact hI.fix 4 (Lt.notD rfl)
      | 5, _ => exact hI.fix 5 (Lt.notD rfl)
      | 6, _ => exact hI.fix 6 (Lt.notD rfl)
      | 7, _ => exact hI.fix 7 (Lt.notD rfl)
      | 8, _ => exact hI.pure 12 8 _ rfl (hall 12 (by decide))
      | 9, _ => exact hI.pure 0 9 _ rfl (hall 0 (by decide))
      | 10, _ => exact hI.pure 1 10 _ rfl (hall 1 (by decide))
      | 11, _ => exact hI.pure 2 11 _ rfl (hall 2 (by decide))
      | 12, _ => exact hI.pure 3 12 _ rfl (hall 3 (by decide))
      | 13, _ => exact hI.pure 4 13 _ rfl (hall 4 (by decide))
      | 14, _ => exact hI.pure 5 14 _ rfl (hall 5 (by decide))
      | 15, _ => exact hI.pure 6 15 _ rfl (hall 6 (by decide))
      | 16, _ => exact hI.pure 7 16 _ rfl (hall 7 (by decide))
      | 17, _ => exact hI.pure 8 17 _ rfl (hall 8 (by decide))
      | 18, _ => exact hI.pure 9 18 _ rfl (hall 9 (by decide))
      | 19, _ => exact hI.pure 10 19 _ rfl (hall 10 (by decide))
      | 20, _ => exact hI.pure 11 20 _ rfl (hall 11 (by decide))
      | 21, _ => exact hI.fix 21 (Lt.notD rfl)
      | 22, _ => exact hI.fix 22 (Lt.notD rfl)
      | 23, _ => exact hI.fix 23 (Lt.notD rfl)
      | 24, _ => exact hI.fix 24 (Lt.notD rfl)
      | 25, _ => exact hI.fix 25 (Lt.notD rfl)
      | 26, _ => exact hI.fix 26 (Lt.notD rfl)
      | 27, _ => exact hI.fix 27 (Lt.notD rfl)
      | q + 28, hq => exact absurd hq (by omega))
    rename_i K2 hK2
    refine hK2 _ _ ?_
    go_wp2_with fail
    go_ret2
    exact ⟨rfl, (K.out _ hw).1⟩
theorem root_arg2 {s0 s1 s2 s3 s4 s5 : Int} {a b : Int} (H : R5 s0 s1 s2 s3 s4) (ha : 0 ≤ a ∧ a < s2) (hb : ¬ (0 ≤ b ∧ b < s3)) (w : World) : Calls Try.prog 81 #[.agg #[.int .i64 s0, .int .i64 s1, .int .i64 s2, .int .i64 s3, .int .i64 s4, .int .i64 s5], .int .i64 a, .int .i64 b] w fun e w' => e = .returned (.tuple #[.int .i64 0, .int .i64 2]) ∧ Below w.heap.size w w' := by
  have HH := hide H
  have T1 := hide (fun w1 : World => isn_t ha.1 ha.2 w1)
  have T2 := hide (fun w1 : World => isn_f hb w1)
  clear H ha hb
  obtain ⟨W0, hW0, B0, K⟩ := box w s0 s1 s2 s3 s4 s5
  have HB := hide B0
  obtain ⟨-, l0, x0, x1, x2, x3, x4, x5⟩ := K.out W0 (Below.refl _ _)
  clear B0
  go_enter Try.func81, Try.ntmps81
  go_wp2_with fail
  go_region_held (fun w' => w'.cell? ⟨w.heap.size, 0, none⟩ = some (.int .i64 s0) ∧ w'.cell? ⟨w.heap.size, 1, none⟩ = some (.int .i64 s1) ∧ w'.cell? ⟨w.heap.size, 2, none⟩ = some (.int .i64 s2) ∧ w'.cell? ⟨w.heap.size, 3, none⟩ = some (.int .i64 s3) ∧ w'.cell? ⟨w.heap.size, 4, none⟩ = some (.int .i64 s4) ∧ w'.cell? ⟨w.heap.size, 5, none⟩ = some (.int .i64 s5)) (go_keep) (first | (go_at_call 96; first | (have hz := GU.out; clear hz; refine (T2.out _).mono ?_; rintro e wq ⟨rfl, hwq⟩; obtain rfl := hwq.symm) | (refine (T1.out _).mono ?_; rintro e wq ⟨rfl, hwq⟩; obtain rfl := hwq.symm; have GU := hide True.intro)) | (go_at_call 95; refine (cw_arg HH.out _).mono ?_; rintro e w1 ⟨rfl, hb1⟩; have HB1 := hide (show Below W0.heap.size W0 w1 from ⟨hb1.os, hb1.tape, hb1.output, hb1.size, hb1.block⟩); clear hb1; obtain ⟨-, m1, y10, y11, y12, y13, y14, y15⟩ := K.out w1 HB1.out))
  all_goals go_wp2_with fail
  all_goals go_ret2
  all_goals exact ⟨rfl, (K.out _ HB1.out).1⟩
theorem root_ok {o s h r k : Nat} {s5 : Int} {a b p : Nat} (H : (⟨o, s, h, r, k⟩ : Sh).Ok) (hp : a * r = p) (hp2 : p ≤ 56) (ha : a < h) (hb : b < r) (w : World) : Calls Try.prog 81 #[.agg #[.int .i64 (o : Int), .int .i64 (s : Int), .int .i64 (h : Int), .int .i64 (r : Int), .int .i64 (k : Int), .int .i64 s5], .int .i64 (a : Int), .int .i64 (b : Int)] w fun e w' => e = .returned (.tuple #[.int .i64 (8 + (h : Int) + (p : Int) + (b : Int)), .int .i64 0]) ∧ Below w.heap.size w w' := by
  have HH := hide (r5 H)
  obtain ⟨b1, b2, b3, b4, b5, b6, b7, b8, b9, b10⟩ := bnds H
  have T1 := hide (fun w1 : World => isn_t (n := (a : Int)) (c := (h : Int)) (by omega) (by omega) w1)
  have T2 := hide (fun w1 : World => isn_t (n := (b : Int)) (c := (r : Int)) (by omega) (by omega) w1)
  have RA := hide (fun w1 => rootAt_any (o := o) (s := s) (h := h) (r := r) (k := k) (s5 := s5) (i := a) (j := b) b3 (by omega) hp hp2 w1)
  clear hp
  clear H b7
  obtain ⟨W0, hW0, B0, K⟩ := box w (o : Int) (s : Int) (h : Int) (r : Int) (k : Int) s5
  have HB := hide B0
  obtain ⟨-, l0, x0, x1, x2, x3, x4, x5⟩ := K.out W0 (Below.refl _ _)
  clear B0
  go_enter Try.func81, Try.ntmps81
  go_wp2_with fail
  go_region_held (fun w' => w'.cell? ⟨w.heap.size, 0, none⟩ = some (.int .i64 (o : Int)) ∧ w'.cell? ⟨w.heap.size, 1, none⟩ = some (.int .i64 (s : Int)) ∧ w'.cell? ⟨w.heap.size, 2, none⟩ = some (.int .i64 (h : Int)) ∧ w'.cell? ⟨w.heap.size, 3, none⟩ = some (.int .i64 (r : Int)) ∧ w'.cell? ⟨w.heap.size, 4, none⟩ = some (.int .i64 (k : Int)) ∧ w'.cell? ⟨w.heap.size, 5, none⟩ = some (.int .i64 s5)) (go_keep) (first | (go_at_call 96; first | (have hz := GU.out; clear hz; refine (T2.out _).mono ?_; rintro e wq ⟨rfl, hwq⟩; obtain rfl := hwq.symm) | (refine (T1.out _).mono ?_; rintro e wq ⟨rfl, hwq⟩; obtain rfl := hwq.symm; have GU := hide True.intro)) | (go_at_call 95; refine (cw_ok HH.out _).mono ?_; rintro e w1 ⟨rfl, hb1⟩; have HB1 := hide (show Below W0.heap.size W0 w1 from ⟨hb1.os, hb1.tape, hb1.output, hb1.size, hb1.block⟩); clear hb1; obtain ⟨-, m1, y10, y11, y12, y13, y14, y15⟩ := K.out w1 HB1.out))
  all_goals go_wp2_with (go_at_call 94; refine (RA.out _).mono ?_; rintro e w2 ⟨rfl, hb2⟩; have HB2 := hide (HB1.out.trans (hb2.mono HB1.out.size)); clear hb2)
  all_goals go_ret2
  all_goals exact ⟨rfl, (K.out _ HB2.out).1⟩

end Shape
end Go.Proofs.Ytbffhfmhjnflbaa
