/-
  Lemmas: ShapeE.
-/
import Derived.Test.YtppgbndoijppnaaGreatTp24
namespace Go.Proofs.YtppgbndoijppnaaGreat
set_option maxHeartbeats 8000000
open Go.RowKit
set_option linter.unusedVariables false
set_option linter.unusedSimpArgs false
set_option linter.unnecessarySimpa false
set_option maxRecDepth 20000
section
namespace Shape
theorem within_f {n lo hi : Int} (h : ¬ (lo ≤ n ∧ n ≤ hi)) (w : World) : Calls Tryz.prog 41 #[.int .i64 n, .int .i64 lo, .int .i64 hi] w fun e w' => e = .returned (.bool false) ∧ w' = w := by
 have := within_any (n := n) (lo := lo) (hi := hi) w
 rwa [decide_eq_false h] at this
theorem isn_f {n c : Int} (h : ¬ (0 ≤ n ∧ n < c)) (w : World) : Calls Tryz.prog 119 #[.int .i64 n, .int .i64 c] w fun e w' => e = .returned (.bool false) ∧ w' = w := by
 have := isn_any (n := n) (c := c) w
 rwa [decide_eq_false h] at this
theorem cw_bad {s0 s1 s2 s3 s4 s5 : Int} (H : ¬ R5 s0 s1 s2 s3 s4) (q : Bool) (w : World) : Calls Tryz.prog 40 #[.agg #[.int .i64 s0, .int .i64 s1, .int .i64 s2, .int .i64 s3, .int .i64 s4, .int .i64 s5], .bool q] w fun e w' => e = .returned (.int .i64 120) ∧ Below w.heap.size w w' := by
 have HH := hide H
 clear H
 obtain ⟨W0, hW0, B0, K⟩ := box w s0 s1 s2 s3 s4 s5
 have HB := hide B0
 obtain ⟨-, l0, x0, x1, x2, x3, x4, x5⟩ := K.out W0 (Below.refl _ _)
 clear B0
 go_enter Tryz.func40, Tryz.ntmps40
 go_wp2_with (go_at_call 53; refine (check_bad HH.out _).mono ?_; rintro e w1 ⟨rfl, hb1⟩; have HB1 := hide hb1; clear hb1; obtain ⟨-, m1, y0, y1, y2, y3, y4, y5⟩ := K.out w1 HB1.out)
 go_ret
 exact ⟨rfl, (K.out _ HB1.out).1⟩
theorem cw_arg {s0 s1 s2 s3 s4 s5 : Int} (H : R5 s0 s1 s2 s3 s4) (w : World) : Calls Tryz.prog 40 #[.agg #[.int .i64 s0, .int .i64 s1, .int .i64 s2, .int .i64 s3, .int .i64 s4, .int .i64 s5], .bool false] w fun e w' => e = .returned (.int .i64 2) ∧ Below w.heap.size w w' := by
 have HH := hide H
 clear H
 obtain ⟨W0, hW0, B0, K⟩ := box w s0 s1 s2 s3 s4 s5
 have HB := hide B0
 obtain ⟨-, l0, x0, x1, x2, x3, x4, x5⟩ := K.out W0 (Below.refl _ _)
 clear B0
 go_enter Tryz.func40, Tryz.ntmps40
 go_wp2_with (go_at_call 53; refine (check_ok HH.out _).mono ?_; rintro e w1 ⟨rfl, hb1⟩; have HB1 := hide hb1; clear hb1; obtain ⟨-, m1, y0, y1, y2, y3, y4, y5⟩ := K.out w1 HB1.out)
 go_ret
 exact ⟨rfl, (K.out _ HB1.out).1⟩
theorem cw_ok {s0 s1 s2 s3 s4 s5 : Int} (H : R5 s0 s1 s2 s3 s4) (w : World) : Calls Tryz.prog 40 #[.agg #[.int .i64 s0, .int .i64 s1, .int .i64 s2, .int .i64 s3, .int .i64 s4, .int .i64 s5], .bool true] w fun e w' => e = .returned (.int .i64 0) ∧ Below w.heap.size w w' := by
 have HH := hide H
 clear H
 obtain ⟨W0, hW0, B0, K⟩ := box w s0 s1 s2 s3 s4 s5
 have HB := hide B0
 obtain ⟨-, l0, x0, x1, x2, x3, x4, x5⟩ := K.out W0 (Below.refl _ _)
 clear B0
 go_enter Tryz.func40, Tryz.ntmps40
 go_wp2_with (go_at_call 53; refine (check_ok HH.out _).mono ?_; rintro e w1 ⟨rfl, hb1⟩; have HB1 := hide hb1; clear hb1; obtain ⟨-, m1, y0, y1, y2, y3, y4, y5⟩ := K.out w1 HB1.out)
 go_ret
 exact ⟨rfl, (K.out _ HB1.out).1⟩
theorem r5 {o s h r k : Nat} (H : (⟨o, s, h, r, k⟩ : Sh).Ok) : R5 (o : Int) (s : Int) (h : Int) (r : Int) (k : Int) := by
 have := H.o1; have := H.o2; have := H.s2; have := H.h1; have := H.h2; have := H.r1; have := H.r2; have := H.k2
 simp only at *
 unfold R5
 omega
theorem bnds {o s h r k : Nat} (H : (⟨o, s, h, r, k⟩ : Sh).Ok) : o ≤ 64 ∧ s ≤ 4 ∧ h ≤ 7 ∧ r ≤ 8 ∧ k ≤ 16 ∧ h * r ≤ 56 ∧ o * (3 + s) ≤ 448 ∧ 1 ≤ o ∧ 1 ≤ h ∧ 1 ≤ r := by
 obtain ⟨z1, z2, _⟩ := sizes H
 have := H.o1; have := H.o2; have := H.s2; have := H.h1; have := H.h2; have := H.r1; have := H.r2; have := H.k2
 simp only [ow] at *
 omega
theorem size_ok {o s h r k : Nat} {s5 : Int} (H : (⟨o, s, h, r, k⟩ : Sh).Ok) (w : World) : Calls Tryz.prog 25 #[.agg #[.int .i64 (o : Int), .int .i64 (s : Int), .int .i64 (h : Int), .int .i64 (r : Int), .int .i64 (k : Int), .int .i64 s5]] w fun e w' => e = .returned (.tuple #[.int .i64 ((size ⟨o, s, h, r, k⟩ : Nat) : Int), .int .i64 0]) ∧ Below w.heap.size w w' := by
 have HH := hide (r5 H)
 obtain ⟨b1, b2, b3, b4, b5, b6, b7, b8, b9, b10⟩ := bnds H
 obtain ⟨q, hq⟩ : ∃ q, o * (3 + s) = q := ⟨_, rfl⟩
 obtain ⟨p, hp⟩ : ∃ p, h * r = p := ⟨_, rfl⟩
 have OA := hide (fun w1 => objectAt_any (o := o) (s := s) (h := h) (r := r) (k := k) (s5 := s5) (i := o + 1) (p := p) (q := q) b3 b2 b5 hp (by omega) (by omega) (by omega) (by simpa using hq) (by omega) w1)
 have ES := hide (show ((size ⟨o, s, h, r, k⟩ : Nat) : Int) = 8 + (h : Int) + (p : Int) + (k : Int) + (q : Int) from by simp only [size, bO, bK, bR, ow]; rw [hp, hq]; omega)
 rw [hp] at b6
 rw [hq] at b7
 clear H hq hp
 obtain ⟨W0, hW0, B0, K⟩ := box w (o : Int) (s : Int) (h : Int) (r : Int) (k : Int) s5
 have HB := hide B0
 obtain ⟨-, l0, x0, x1, x2, x3, x4, x5⟩ := K.out W0 (Below.refl _ _)
 clear B0
 go_enter Tryz.func25, Tryz.ntmps25
 go_wp2_with (first | (go_at_call 53; refine (check_ok HH.out _).mono ?_; rintro e w1 ⟨rfl, hb1⟩; have HB1 := hide hb1; clear hb1; obtain ⟨-, m1, y0, y1, y2, y3, y4, y5⟩ := K.out w1 HB1.out) | (go_at_call 42; refine (OA.out _).mono ?_; rintro e w2 ⟨rfl, hb2⟩; have HB2 := hide (HB1.out.trans (hb2.mono HB1.out.size)); clear hb2))
 go_ret2
 exact ⟨by rw [ES.out]; rfl, (K.out _ HB2.out).1⟩
theorem object_arg {s0 s1 s2 s3 s4 s5 : Int} {a : Int} (H : R5 s0 s1 s2 s3 s4) (ha : ¬ (1 ≤ a ∧ a ≤ s0)) (w : World) : Calls Tryz.prog 19 #[.agg #[.int .i64 s0, .int .i64 s1, .int .i64 s2, .int .i64 s3, .int .i64 s4, .int .i64 s5], .int .i64 a] w fun e w' => e = .returned (.tuple #[.int .i64 0, .int .i64 2]) ∧ Below w.heap.size w w' := by
 have HH := hide H
 clear H
 have TS := hide (fun w1 : World => within_f ha w1)
 clear ha
 obtain ⟨W0, hW0, B0, K⟩ := box w s0 s1 s2 s3 s4 s5
 have HB := hide B0
 obtain ⟨-, l0, x0, x1, x2, x3, x4, x5⟩ := K.out W0 (Below.refl _ _)
 clear B0
 go_enter Tryz.func19, Tryz.ntmps19
 go_wp2_with fail
 go_region_held (fun w' => w'.cell? ⟨w.heap.size, 0, none⟩ = some (.int .i64 s0) ∧ w'.cell? ⟨w.heap.size, 1, none⟩ = some (.int .i64 s1) ∧ w'.cell? ⟨w.heap.size, 2, none⟩ = some (.int .i64 s2) ∧ w'.cell? ⟨w.heap.size, 3, none⟩ = some (.int .i64 s3) ∧ w'.cell? ⟨w.heap.size, 4, none⟩ = some (.int .i64 s4) ∧ w'.cell? ⟨w.heap.size, 5, none⟩ = some (.int .i64 s5)) (go_keep) (first | (go_at_call 41; refine (TS.out _).mono ?_; rintro e wq ⟨rfl, hwq⟩; obtain rfl := hwq.symm) | (go_at_call 40; refine (cw_arg HH.out _).mono ?_; rintro e w1 ⟨rfl, hb1⟩; have HB1 := hide (show Below W0.heap.size W0 w1 from ⟨hb1.os, hb1.tape, hb1.output, hb1.size, hb1.block⟩); clear hb1; obtain ⟨-, m1, y10, y11, y12, y13, y14, y15⟩ := K.out w1 HB1.out))
 all_goals go_wp2_with fail
 all_goals go_ret2
 all_goals exact ⟨rfl, (K.out _ HB1.out).1⟩
theorem object_ok {o s h r k : Nat} {s5 : Int} {a p q : Nat} (H : (⟨o, s, h, r, k⟩ : Sh).Ok) (hp : h * r = p) (ha1 : 1 ≤ a) (ha : a ≤ o) (hq : (a - 1) * (3 + s) = q) (hq2 : q ≤ 448) (w : World) : Calls Tryz.prog 19 #[.agg #[.int .i64 (o : Int), .int .i64 (s : Int), .int .i64 (h : Int), .int .i64 (r : Int), .int .i64 (k : Int), .int .i64 s5], .int .i64 (a : Int)] w fun e w' => e = .returned (.tuple #[.int .i64 (8 + (h : Int) + (p : Int) + (k : Int) + (q : Int)), .int .i64 0]) ∧ Below w.heap.size w w' := by
 have HH := hide (r5 H)
 obtain ⟨b1, b2, b3, b4, b5, b6, b7, b8, b9, b10⟩ := bnds H
 rw [hp] at b6
 have TS := hide (fun w1 : World => within_t (n := (a : Int)) (lo := 1) (hi := (o : Int)) (by omega) (by omega) w1)
 have OA := hide (fun w1 => objectAt_any (o := o) (s := s) (h := h) (r := r) (k := k) (s5 := s5) (i := a) (p := p) (q := q) b3 b2 b5 hp (by omega) ha1 (by omega) hq hq2 w1)
 clear hq
 clear H hp b7
 obtain ⟨W0, hW0, B0, K⟩ := box w (o : Int) (s : Int) (h : Int) (r : Int) (k : Int) s5
 have HB := hide B0
 obtain ⟨-, l0, x0, x1, x2, x3, x4, x5⟩ := K.out W0 (Below.refl _ _)
 clear B0
 go_enter Tryz.func19, Tryz.ntmps19
 go_wp2_with fail
 go_region_held (fun w' => w'.cell? ⟨w.heap.size, 0, none⟩ = some (.int .i64 (o : Int)) ∧ w'.cell? ⟨w.heap.size, 1, none⟩ = some (.int .i64 (s : Int)) ∧ w'.cell? ⟨w.heap.size, 2, none⟩ = some (.int .i64 (h : Int)) ∧ w'.cell? ⟨w.heap.size, 3, none⟩ = some (.int .i64 (r : Int)) ∧ w'.cell? ⟨w.heap.size, 4, none⟩ = some (.int .i64 (k : Int)) ∧ w'.cell? ⟨w.heap.size, 5, none⟩ = some (.int .i64 s5)) (go_keep) (first | (go_at_call 41; refine (TS.out _).mono ?_; rintro e wq ⟨rfl, hwq⟩; obtain rfl := hwq.symm) | (go_at_call 40; refine (cw_ok HH.out _).mono ?_; rintro e w1 ⟨rfl, hb1⟩; have HB1 := hide (show Below W0.heap.size W0 w1 from ⟨hb1.os, hb1.tape, hb1.output, hb1.size, hb1.block⟩); clear hb1; obtain ⟨-, m1, y10, y11, y12, y13, y14, y15⟩ := K.out w1 HB1.out))
 all_goals go_wp2_with (go_at_call 42; refine (OA.out _).mono ?_; rintro e w2 ⟨rfl, hb2⟩; have HB2 := hide (HB1.out.trans (hb2.mono HB1.out.size)); clear hb2)
 all_goals go_ret2
 all_goals exact ⟨rfl, (K.out _ HB2.out).1⟩
end Shape
end
end Go.Proofs.YtppgbndoijppnaaGreat
