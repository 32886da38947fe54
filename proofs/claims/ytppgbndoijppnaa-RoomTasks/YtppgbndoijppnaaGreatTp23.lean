/-
  Lemmas: ShapeA.
-/
import Derived.Test.YtppgbndoijppnaaGreatTp22
namespace Go.Proofs.YtppgbndoijppnaaGreat
set_option maxHeartbeats 8000000
open Go.RowKit
set_option linter.unusedVariables false
set_option linter.unusedSimpArgs false
set_option linter.unnecessarySimpa false
set_option maxRecDepth 20000
section
namespace Shape
theorem wI {x : Int} (h1 : -9223372036854775808 ≤ x) (h2 : x ≤ 9223372036854775807) : IntKind.i64.wrap x = x := by rw [IntKind.wrap_i64]; omega
theorem box (w : World) (s0 s1 s2 s3 s4 s5 : Int) : ∃ W0, w.alloc (.cells #[.int .i64 s0, .int .i64 s1, .int .i64 s2, .int .i64 s3, .int .i64 s4, .int .i64 s5] 23) = W0 ∧ Below w.heap.size w W0 ∧ Hid (∀ w' : World, Below W0.heap.size W0 w' → Below w.heap.size w w' ∧ w.heap.size < w'.heap.size ∧ w'.cell? ⟨w.heap.size, 0, none⟩ = some (.int .i64 s0) ∧ w'.cell? ⟨w.heap.size, 1, none⟩ = some (.int .i64 s1) ∧ w'.cell? ⟨w.heap.size, 2, none⟩ = some (.int .i64 s2) ∧ w'.cell? ⟨w.heap.size, 3, none⟩ = some (.int .i64 s3) ∧ w'.cell? ⟨w.heap.size, 4, none⟩ = some (.int .i64 s4) ∧ w'.cell? ⟨w.heap.size, 5, none⟩ = some (.int .i64 s5)) := by
 refine ⟨_, rfl, (Below.refl _ w).alloc (Nat.le_refl _) _, fun w' hb => ?_⟩
 have B0 : Below w.heap.size w (w.alloc (.cells #[.int .i64 s0, .int .i64 s1, .int .i64 s2, .int .i64 s3, .int .i64 s4, .int .i64 s5] 23)) := (Below.refl _ w).alloc (Nat.le_refl _) _
 have R0 : (w.alloc (.cells #[.int .i64 s0, .int .i64 s1, .int .i64 s2, .int .i64 s3, .int .i64 s4, .int .i64 s5] 23)).rowIs w.heap.size 23 6 (lrow [.int .i64 s0, .int .i64 s1, .int .i64 s2, .int .i64 s3, .int .i64 s4, .int .i64 s5]) := rowL_alloc w [.int .i64 s0, .int .i64 s1, .int .i64 s2, .int .i64 s3, .int .i64 s4, .int .i64 s5] _ rfl
 have q := R0.of_block (hb.block w.heap.size R0.lt)
 exact ⟨B0.trans (hb.mono B0.size), q.lt, q.cell (i := 0) (by decide), q.cell (i := 1) (by decide), q.cell (i := 2) (by decide), q.cell (i := 3) (by decide), q.cell (i := 4) (by decide), q.cell (i := 5) (by decide)⟩
theorem within_t {n lo hi : Int} (h1 : lo ≤ n) (h2 : n ≤ hi) (w : World) : Calls Tryz.prog 41 #[.int .i64 n, .int .i64 lo, .int .i64 hi] w fun e w' => e = .returned (.bool true) ∧ w' = w := by
 go_enter Tryz.func41, Tryz.ntmps41
 go_wp2
 go_ret
 exact ⟨rfl, rfl⟩
theorem within_lo {n lo hi : Int} (h1 : ¬ lo ≤ n) (w : World) : Calls Tryz.prog 41 #[.int .i64 n, .int .i64 lo, .int .i64 hi] w fun e w' => e = .returned (.bool false) ∧ w' = w := by
 go_enter Tryz.func41, Tryz.ntmps41
 go_wp2
 go_ret
 exact ⟨rfl, rfl⟩
theorem within_hi {n lo hi : Int} (h1 : lo ≤ n) (h2 : ¬ n ≤ hi) (w : World) : Calls Tryz.prog 41 #[.int .i64 n, .int .i64 lo, .int .i64 hi] w fun e w' => e = .returned (.bool false) ∧ w' = w := by
 go_enter Tryz.func41, Tryz.ntmps41
 go_wp2
 go_ret
 exact ⟨rfl, rfl⟩
theorem within_any {n lo hi : Int} (w : World) : Calls Tryz.prog 41 #[.int .i64 n, .int .i64 lo, .int .i64 hi] w fun e w' => e = .returned (.bool (decide (lo ≤ n ∧ n ≤ hi))) ∧ w' = w := by
 by_cases h1 : lo ≤ n
 ·by_cases h2 : n ≤ hi
  ·rw [decide_eq_true (show lo ≤ n ∧ n ≤ hi from ⟨h1, h2⟩)]; exact within_t h1 h2 w
  ·rw [decide_eq_false (show ¬ (lo ≤ n ∧ n ≤ hi) from fun h => h2 h.2)]; exact within_hi h1 h2 w
 ·rw [decide_eq_false (show ¬ (lo ≤ n ∧ n ≤ hi) from fun h => h1 h.1)]; exact within_lo h1 w
theorem rwithin_t {n lo hi : Int} (h1 : lo ≤ n) (h2 : n ≤ hi) (w : World) : Calls Tryz.prog 56 #[.int .i64 n, .int .i64 lo, .int .i64 hi] w fun e w' => e = .returned (.bool true) ∧ w' = w := by
 go_enter Tryz.func56, Tryz.ntmps56
 go_wp2
 go_ret
 exact ⟨rfl, rfl⟩
theorem rwithin_lo {n lo hi : Int} (h1 : ¬ lo ≤ n) (w : World) : Calls Tryz.prog 56 #[.int .i64 n, .int .i64 lo, .int .i64 hi] w fun e w' => e = .returned (.bool false) ∧ w' = w := by
 go_enter Tryz.func56, Tryz.ntmps56
 go_wp2
 go_ret
 exact ⟨rfl, rfl⟩
theorem rwithin_hi {n lo hi : Int} (h1 : lo ≤ n) (h2 : ¬ n ≤ hi) (w : World) : Calls Tryz.prog 56 #[.int .i64 n, .int .i64 lo, .int .i64 hi] w fun e w' => e = .returned (.bool false) ∧ w' = w := by
 go_enter Tryz.func56, Tryz.ntmps56
 go_wp2
 go_ret
 exact ⟨rfl, rfl⟩
theorem rwithin_any {n lo hi : Int} (w : World) : Calls Tryz.prog 56 #[.int .i64 n, .int .i64 lo, .int .i64 hi] w fun e w' => e = .returned (.bool (decide (lo ≤ n ∧ n ≤ hi))) ∧ w' = w := by
 by_cases h1 : lo ≤ n
 ·by_cases h2 : n ≤ hi
  ·rw [decide_eq_true (show lo ≤ n ∧ n ≤ hi from ⟨h1, h2⟩)]; exact rwithin_t h1 h2 w
  ·rw [decide_eq_false (show ¬ (lo ≤ n ∧ n ≤ hi) from fun h => h2 h.2)]; exact rwithin_hi h1 h2 w
 ·rw [decide_eq_false (show ¬ (lo ≤ n ∧ n ≤ hi) from fun h => h1 h.1)]; exact rwithin_lo h1 w
theorem isn_t {n c : Int} (h1 : 0 ≤ n) (h2 : n < c) (w : World) : Calls Tryz.prog 119 #[.int .i64 n, .int .i64 c] w fun e w' => e = .returned (.bool true) ∧ w' = w := by
 go_enter Tryz.func119, Tryz.ntmps119
 go_wp2
 go_ret
 exact ⟨rfl, rfl⟩
theorem isn_lo {n c : Int} (h1 : ¬ 0 ≤ n) (w : World) : Calls Tryz.prog 119 #[.int .i64 n, .int .i64 c] w fun e w' => e = .returned (.bool false) ∧ w' = w := by
 go_enter Tryz.func119, Tryz.ntmps119
 go_wp2
 go_ret
 exact ⟨rfl, rfl⟩
theorem isn_hi {n c : Int} (h1 : 0 ≤ n) (h2 : ¬ n < c) (w : World) : Calls Tryz.prog 119 #[.int .i64 n, .int .i64 c] w fun e w' => e = .returned (.bool false) ∧ w' = w := by
 go_enter Tryz.func119, Tryz.ntmps119
 go_wp2
 go_ret
 exact ⟨rfl, rfl⟩
theorem isn_any {n c : Int} (w : World) : Calls Tryz.prog 119 #[.int .i64 n, .int .i64 c] w fun e w' => e = .returned (.bool (decide (0 ≤ n ∧ n < c))) ∧ w' = w := by
 by_cases h1 : 0 ≤ n
 ·by_cases h2 : n < c
  ·rw [decide_eq_true (show 0 ≤ n ∧ n < c from ⟨h1, h2⟩)]; exact isn_t h1 h2 w
  ·rw [decide_eq_false (show ¬ (0 ≤ n ∧ n < c) from fun h => h2 h.2)]; exact isn_hi h1 h2 w
 ·rw [decide_eq_false (show ¬ (0 ≤ n ∧ n < c) from fun h => h1 h.1)]; exact isn_lo h1 w
structure Shp where
 a : Int
 b : Int
 c : Int
 d : Int
 e : Int
 f : Int
def Shp.val (s : Shp) : Value := .agg #[.int .i64 s.a, .int .i64 s.b, .int .i64 s.c, .int .i64 s.d, .int .i64 s.e, .int .i64 s.f]
def R5 (s0 s1 s2 s3 s4 : Int) : Prop := (1 ≤ s0 ∧ s0 ≤ 64) ∧ (0 ≤ s1 ∧ s1 ≤ 4) ∧ (1 ≤ s2 ∧ s2 ≤ 7) ∧ (1 ≤ s3 ∧ s3 ≤ 8) ∧ (0 ≤ s4 ∧ s4 ≤ 16)
theorem check_ok {s0 s1 s2 s3 s4 s5 : Int} (H : R5 s0 s1 s2 s3 s4) (w : World) : Calls Tryz.prog 53 #[.agg #[.int .i64 s0, .int .i64 s1, .int .i64 s2, .int .i64 s3, .int .i64 s4, .int .i64 s5]] w fun e w' => e = .returned (.int .i64 0) ∧ Below w.heap.size w w' := by
 obtain ⟨⟨a1, a2⟩, ⟨b1, b2⟩, ⟨c1, c2⟩, ⟨d1, d2⟩, ⟨e1, e2⟩⟩ := H
 obtain ⟨W0, hW0, B0, K⟩ := box w s0 s1 s2 s3 s4 s5
 have HB := hide B0
 obtain ⟨-, l0, x0, x1, x2, x3, x4, x5⟩ := K.out W0 (Below.refl _ _)
 clear B0 K
 go_enter Tryz.func53, Tryz.ntmps53
 go_wp2_with (go_at_call 41; refine (within_any _).mono ?_; rintro e w1 ⟨rfl, hw1⟩; obtain rfl := hw1.symm)
 go_ret
 exact ⟨rfl, HB.out⟩
theorem check_lo0 {s0 s1 s2 s3 s4 s5 : Int}  (hz : ¬ 1 ≤ s0) (w : World) : Calls Tryz.prog 53 #[.agg #[.int .i64 s0, .int .i64 s1, .int .i64 s2, .int .i64 s3, .int .i64 s4, .int .i64 s5]] w fun e w' => e = .returned (.int .i64 120) ∧ Below w.heap.size w w' := by
 obtain ⟨W0, hW0, B0, K⟩ := box w s0 s1 s2 s3 s4 s5
 have HB := hide B0
 obtain ⟨-, l0, x0, x1, x2, x3, x4, x5⟩ := K.out W0 (Below.refl _ _)
 clear B0 K
 have hd : (decide (1 ≤ s0) && decide (s0 ≤ 64)) = false := by simp; omega
 go_enter Tryz.func53, Tryz.ntmps53
 go_wp2_with (go_at_call 41; refine (within_any _).mono ?_; rintro e w1 ⟨rfl, hw1⟩; obtain rfl := hw1.symm)
 go_ret
 exact ⟨rfl, HB.out⟩
theorem check_hi0 {s0 s1 s2 s3 s4 s5 : Int}  (p0 : 1 ≤ s0) (hz : ¬ s0 ≤ 64) (w : World) : Calls Tryz.prog 53 #[.agg #[.int .i64 s0, .int .i64 s1, .int .i64 s2, .int .i64 s3, .int .i64 s4, .int .i64 s5]] w fun e w' => e = .returned (.int .i64 120) ∧ Below w.heap.size w w' := by
 obtain ⟨W0, hW0, B0, K⟩ := box w s0 s1 s2 s3 s4 s5
 have HB := hide B0
 obtain ⟨-, l0, x0, x1, x2, x3, x4, x5⟩ := K.out W0 (Below.refl _ _)
 clear B0 K
 have hd : decide (s0 ≤ 64) = false := by simp; omega
 go_enter Tryz.func53, Tryz.ntmps53
 go_wp2_with (go_at_call 41; refine (within_any _).mono ?_; rintro e w1 ⟨rfl, hw1⟩; obtain rfl := hw1.symm)
 go_ret
 exact ⟨rfl, HB.out⟩
theorem check_lo1 {s0 s1 s2 s3 s4 s5 : Int} (p0 : 1 ≤ s0) (q0 : s0 ≤ 64) (hz : ¬ 0 ≤ s1) (w : World) : Calls Tryz.prog 53 #[.agg #[.int .i64 s0, .int .i64 s1, .int .i64 s2, .int .i64 s3, .int .i64 s4, .int .i64 s5]] w fun e w' => e = .returned (.int .i64 120) ∧ Below w.heap.size w w' := by
 obtain ⟨W0, hW0, B0, K⟩ := box w s0 s1 s2 s3 s4 s5
 have HB := hide B0
 obtain ⟨-, l0, x0, x1, x2, x3, x4, x5⟩ := K.out W0 (Below.refl _ _)
 clear B0 K
 have hd : (decide (0 ≤ s1) && decide (s1 ≤ 4)) = false := by simp; omega
 go_enter Tryz.func53, Tryz.ntmps53
 go_wp2_with (go_at_call 41; refine (within_any _).mono ?_; rintro e w1 ⟨rfl, hw1⟩; obtain rfl := hw1.symm)
 go_ret
 exact ⟨rfl, HB.out⟩
theorem check_hi1 {s0 s1 s2 s3 s4 s5 : Int} (p0 : 1 ≤ s0) (q0 : s0 ≤ 64) (p1 : 0 ≤ s1) (hz : ¬ s1 ≤ 4) (w : World) : Calls Tryz.prog 53 #[.agg #[.int .i64 s0, .int .i64 s1, .int .i64 s2, .int .i64 s3, .int .i64 s4, .int .i64 s5]] w fun e w' => e = .returned (.int .i64 120) ∧ Below w.heap.size w w' := by
 obtain ⟨W0, hW0, B0, K⟩ := box w s0 s1 s2 s3 s4 s5
 have HB := hide B0
 obtain ⟨-, l0, x0, x1, x2, x3, x4, x5⟩ := K.out W0 (Below.refl _ _)
 clear B0 K
 have hd : decide (s1 ≤ 4) = false := by simp; omega
 go_enter Tryz.func53, Tryz.ntmps53
 go_wp2_with (go_at_call 41; refine (within_any _).mono ?_; rintro e w1 ⟨rfl, hw1⟩; obtain rfl := hw1.symm)
 go_ret
 exact ⟨rfl, HB.out⟩
theorem check_lo2 {s0 s1 s2 s3 s4 s5 : Int} (p0 : 1 ≤ s0) (q0 : s0 ≤ 64) (p1 : 0 ≤ s1) (q1 : s1 ≤ 4) (hz : ¬ 1 ≤ s2) (w : World) : Calls Tryz.prog 53 #[.agg #[.int .i64 s0, .int .i64 s1, .int .i64 s2, .int .i64 s3, .int .i64 s4, .int .i64 s5]] w fun e w' => e = .returned (.int .i64 120) ∧ Below w.heap.size w w' := by
 obtain ⟨W0, hW0, B0, K⟩ := box w s0 s1 s2 s3 s4 s5
 have HB := hide B0
 obtain ⟨-, l0, x0, x1, x2, x3, x4, x5⟩ := K.out W0 (Below.refl _ _)
 clear B0 K
 have hd : (decide (1 ≤ s2) && decide (s2 ≤ 7)) = false := by simp; omega
 go_enter Tryz.func53, Tryz.ntmps53
 go_wp2_with (go_at_call 41; refine (within_any _).mono ?_; rintro e w1 ⟨rfl, hw1⟩; obtain rfl := hw1.symm)
 go_ret
 exact ⟨rfl, HB.out⟩
theorem check_hi2 {s0 s1 s2 s3 s4 s5 : Int} (p0 : 1 ≤ s0) (q0 : s0 ≤ 64) (p1 : 0 ≤ s1) (q1 : s1 ≤ 4) (p2 : 1 ≤ s2) (hz : ¬ s2 ≤ 7) (w : World) : Calls Tryz.prog 53 #[.agg #[.int .i64 s0, .int .i64 s1, .int .i64 s2, .int .i64 s3, .int .i64 s4, .int .i64 s5]] w fun e w' => e = .returned (.int .i64 120) ∧ Below w.heap.size w w' := by
 obtain ⟨W0, hW0, B0, K⟩ := box w s0 s1 s2 s3 s4 s5
 have HB := hide B0
 obtain ⟨-, l0, x0, x1, x2, x3, x4, x5⟩ := K.out W0 (Below.refl _ _)
 clear B0 K
 have hd : decide (s2 ≤ 7) = false := by simp; omega
 go_enter Tryz.func53, Tryz.ntmps53
 go_wp2_with (go_at_call 41; refine (within_any _).mono ?_; rintro e w1 ⟨rfl, hw1⟩; obtain rfl := hw1.symm)
 go_ret
 exact ⟨rfl, HB.out⟩
theorem check_lo3 {s0 s1 s2 s3 s4 s5 : Int} (p0 : 1 ≤ s0) (q0 : s0 ≤ 64) (p1 : 0 ≤ s1) (q1 : s1 ≤ 4) (p2 : 1 ≤ s2) (q2 : s2 ≤ 7) (hz : ¬ 1 ≤ s3) (w : World) : Calls Tryz.prog 53 #[.agg #[.int .i64 s0, .int .i64 s1, .int .i64 s2, .int .i64 s3, .int .i64 s4, .int .i64 s5]] w fun e w' => e = .returned (.int .i64 120) ∧ Below w.heap.size w w' := by
 obtain ⟨W0, hW0, B0, K⟩ := box w s0 s1 s2 s3 s4 s5
 have HB := hide B0
 obtain ⟨-, l0, x0, x1, x2, x3, x4, x5⟩ := K.out W0 (Below.refl _ _)
 clear B0 K
 have hd : (decide (1 ≤ s3) && decide (s3 ≤ 8)) = false := by simp; omega
 go_enter Tryz.func53, Tryz.ntmps53
 go_wp2_with (go_at_call 41; refine (within_any _).mono ?_; rintro e w1 ⟨rfl, hw1⟩; obtain rfl := hw1.symm)
 go_ret
 exact ⟨rfl, HB.out⟩
theorem check_hi3 {s0 s1 s2 s3 s4 s5 : Int} (p0 : 1 ≤ s0) (q0 : s0 ≤ 64) (p1 : 0 ≤ s1) (q1 : s1 ≤ 4) (p2 : 1 ≤ s2) (q2 : s2 ≤ 7) (p3 : 1 ≤ s3) (hz : ¬ s3 ≤ 8) (w : World) : Calls Tryz.prog 53 #[.agg #[.int .i64 s0, .int .i64 s1, .int .i64 s2, .int .i64 s3, .int .i64 s4, .int .i64 s5]] w fun e w' => e = .returned (.int .i64 120) ∧ Below w.heap.size w w' := by
 obtain ⟨W0, hW0, B0, K⟩ := box w s0 s1 s2 s3 s4 s5
 have HB := hide B0
 obtain ⟨-, l0, x0, x1, x2, x3, x4, x5⟩ := K.out W0 (Below.refl _ _)
 clear B0 K
 have hd : decide (s3 ≤ 8) = false := by simp; omega
 go_enter Tryz.func53, Tryz.ntmps53
 go_wp2_with (go_at_call 41; refine (within_any _).mono ?_; rintro e w1 ⟨rfl, hw1⟩; obtain rfl := hw1.symm)
 go_ret
 exact ⟨rfl, HB.out⟩
theorem check_lo4 {s0 s1 s2 s3 s4 s5 : Int} (p0 : 1 ≤ s0) (q0 : s0 ≤ 64) (p1 : 0 ≤ s1) (q1 : s1 ≤ 4) (p2 : 1 ≤ s2) (q2 : s2 ≤ 7) (p3 : 1 ≤ s3) (q3 : s3 ≤ 8) (hz : ¬ 0 ≤ s4) (w : World) : Calls Tryz.prog 53 #[.agg #[.int .i64 s0, .int .i64 s1, .int .i64 s2, .int .i64 s3, .int .i64 s4, .int .i64 s5]] w fun e w' => e = .returned (.int .i64 120) ∧ Below w.heap.size w w' := by
 obtain ⟨W0, hW0, B0, K⟩ := box w s0 s1 s2 s3 s4 s5
 have HB := hide B0
 obtain ⟨-, l0, x0, x1, x2, x3, x4, x5⟩ := K.out W0 (Below.refl _ _)
 clear B0 K
 have hd : (decide (0 ≤ s4) && decide (s4 ≤ 16)) = false := by simp; omega
 go_enter Tryz.func53, Tryz.ntmps53
 go_wp2_with (go_at_call 41; refine (within_any _).mono ?_; rintro e w1 ⟨rfl, hw1⟩; obtain rfl := hw1.symm)
 go_ret
 exact ⟨rfl, HB.out⟩
theorem check_hi4 {s0 s1 s2 s3 s4 s5 : Int} (p0 : 1 ≤ s0) (q0 : s0 ≤ 64) (p1 : 0 ≤ s1) (q1 : s1 ≤ 4) (p2 : 1 ≤ s2) (q2 : s2 ≤ 7) (p3 : 1 ≤ s3) (q3 : s3 ≤ 8) (p4 : 0 ≤ s4) (hz : ¬ s4 ≤ 16) (w : World) : Calls Tryz.prog 53 #[.agg #[.int .i64 s0, .int .i64 s1, .int .i64 s2, .int .i64 s3, .int .i64 s4, .int .i64 s5]] w fun e w' => e = .returned (.int .i64 120) ∧ Below w.heap.size w w' := by
 obtain ⟨W0, hW0, B0, K⟩ := box w s0 s1 s2 s3 s4 s5
 have HB := hide B0
 obtain ⟨-, l0, x0, x1, x2, x3, x4, x5⟩ := K.out W0 (Below.refl _ _)
 clear B0 K
 have hd : decide (s4 ≤ 16) = false := by simp; omega
 go_enter Tryz.func53, Tryz.ntmps53
 go_wp2_with (go_at_call 41; refine (within_any _).mono ?_; rintro e w1 ⟨rfl, hw1⟩; obtain rfl := hw1.symm)
 go_ret
 exact ⟨rfl, HB.out⟩
theorem check_bad {s0 s1 s2 s3 s4 s5 : Int} (H : ¬ R5 s0 s1 s2 s3 s4) (w : World) : Calls Tryz.prog 53 #[.agg #[.int .i64 s0, .int .i64 s1, .int .i64 s2, .int .i64 s3, .int .i64 s4, .int .i64 s5]] w fun e w' => e = .returned (.int .i64 120) ∧ Below w.heap.size w w' := by
 by_cases p0 : 1 ≤ s0
 case neg => exact check_lo0  p0 w
 by_cases q0 : s0 ≤ 64
 case neg => exact check_hi0  p0 q0 w
 by_cases p1 : 0 ≤ s1
 case neg => exact check_lo1 p0 q0 p1 w
 by_cases q1 : s1 ≤ 4
 case neg => exact check_hi1 p0 q0 p1 q1 w
 by_cases p2 : 1 ≤ s2
 case neg => exact check_lo2 p0 q0 p1 q1 p2 w
 by_cases q2 : s2 ≤ 7
 case neg => exact check_hi2 p0 q0 p1 q1 p2 q2 w
 by_cases p3 : 1 ≤ s3
 case neg => exact check_lo3 p0 q0 p1 q1 p2 q2 p3 w
 by_cases q3 : s3 ≤ 8
 case neg => exact check_hi3 p0 q0 p1 q1 p2 q2 p3 q3 w
 by_cases p4 : 0 ≤ s4
 case neg => exact check_lo4 p0 q0 p1 q1 p2 q2 p3 q3 p4 w
 by_cases q4 : s4 ≤ 16
 case neg => exact check_hi4 p0 q0 p1 q1 p2 q2 p3 q3 p4 q4 w
 exact absurd ⟨⟨p0, q0⟩, ⟨p1, q1⟩, ⟨p2, q2⟩, ⟨p3, q3⟩, ⟨p4, q4⟩⟩ H
theorem rcheck_ok {s0 s1 s2 s3 s4 s5 : Int} (H : R5 s0 s1 s2 s3 s4) (w : World) : Calls Tryz.prog 28 #[.agg #[.int .i64 s0, .int .i64 s1, .int .i64 s2, .int .i64 s3, .int .i64 s4, .int .i64 s5]] w fun e w' => e = .returned (.int .i64 0) ∧ Below w.heap.size w w' := by
 obtain ⟨⟨a1, a2⟩, ⟨b1, b2⟩, ⟨c1, c2⟩, ⟨d1, d2⟩, ⟨e1, e2⟩⟩ := H
 obtain ⟨W0, hW0, B0, K⟩ := box w s0 s1 s2 s3 s4 s5
 have HB := hide B0
 obtain ⟨-, l0, x0, x1, x2, x3, x4, x5⟩ := K.out W0 (Below.refl _ _)
 clear B0 K
 go_enter Tryz.func28, Tryz.ntmps28
 go_wp2_with (go_at_call 56; refine (rwithin_any _).mono ?_; rintro e w1 ⟨rfl, hw1⟩; obtain rfl := hw1.symm)
 go_ret
 exact ⟨rfl, HB.out⟩
theorem rcheck_lo0 {s0 s1 s2 s3 s4 s5 : Int}  (hz : ¬ 1 ≤ s0) (w : World) : Calls Tryz.prog 28 #[.agg #[.int .i64 s0, .int .i64 s1, .int .i64 s2, .int .i64 s3, .int .i64 s4, .int .i64 s5]] w fun e w' => e = .returned (.int .i64 120) ∧ Below w.heap.size w w' := by
 obtain ⟨W0, hW0, B0, K⟩ := box w s0 s1 s2 s3 s4 s5
 have HB := hide B0
 obtain ⟨-, l0, x0, x1, x2, x3, x4, x5⟩ := K.out W0 (Below.refl _ _)
 clear B0 K
 have hd : (decide (1 ≤ s0) && decide (s0 ≤ 64)) = false := by simp; omega
 go_enter Tryz.func28, Tryz.ntmps28
 go_wp2_with (go_at_call 56; refine (rwithin_any _).mono ?_; rintro e w1 ⟨rfl, hw1⟩; obtain rfl := hw1.symm)
 go_ret
 exact ⟨rfl, HB.out⟩
theorem rcheck_hi0 {s0 s1 s2 s3 s4 s5 : Int}  (p0 : 1 ≤ s0) (hz : ¬ s0 ≤ 64) (w : World) : Calls Tryz.prog 28 #[.agg #[.int .i64 s0, .int .i64 s1, .int .i64 s2, .int .i64 s3, .int .i64 s4, .int .i64 s5]] w fun e w' => e = .returned (.int .i64 120) ∧ Below w.heap.size w w' := by
 obtain ⟨W0, hW0, B0, K⟩ := box w s0 s1 s2 s3 s4 s5
 have HB := hide B0
 obtain ⟨-, l0, x0, x1, x2, x3, x4, x5⟩ := K.out W0 (Below.refl _ _)
 clear B0 K
 have hd : decide (s0 ≤ 64) = false := by simp; omega
 go_enter Tryz.func28, Tryz.ntmps28
 go_wp2_with (go_at_call 56; refine (rwithin_any _).mono ?_; rintro e w1 ⟨rfl, hw1⟩; obtain rfl := hw1.symm)
 go_ret
 exact ⟨rfl, HB.out⟩
theorem rcheck_lo1 {s0 s1 s2 s3 s4 s5 : Int} (p0 : 1 ≤ s0) (q0 : s0 ≤ 64) (hz : ¬ 0 ≤ s1) (w : World) : Calls Tryz.prog 28 #[.agg #[.int .i64 s0, .int .i64 s1, .int .i64 s2, .int .i64 s3, .int .i64 s4, .int .i64 s5]] w fun e w' => e = .returned (.int .i64 120) ∧ Below w.heap.size w w' := by
 obtain ⟨W0, hW0, B0, K⟩ := box w s0 s1 s2 s3 s4 s5
 have HB := hide B0
 obtain ⟨-, l0, x0, x1, x2, x3, x4, x5⟩ := K.out W0 (Below.refl _ _)
 clear B0 K
 have hd : (decide (0 ≤ s1) && decide (s1 ≤ 4)) = false := by simp; omega
 go_enter Tryz.func28, Tryz.ntmps28
 go_wp2_with (go_at_call 56; refine (rwithin_any _).mono ?_; rintro e w1 ⟨rfl, hw1⟩; obtain rfl := hw1.symm)
 go_ret
 exact ⟨rfl, HB.out⟩
theorem rcheck_hi1 {s0 s1 s2 s3 s4 s5 : Int} (p0 : 1 ≤ s0) (q0 : s0 ≤ 64) (p1 : 0 ≤ s1) (hz : ¬ s1 ≤ 4) (w : World) : Calls Tryz.prog 28 #[.agg #[.int .i64 s0, .int .i64 s1, .int .i64 s2, .int .i64 s3, .int .i64 s4, .int .i64 s5]] w fun e w' => e = .returned (.int .i64 120) ∧ Below w.heap.size w w' := by
 obtain ⟨W0, hW0, B0, K⟩ := box w s0 s1 s2 s3 s4 s5
 have HB := hide B0
 obtain ⟨-, l0, x0, x1, x2, x3, x4, x5⟩ := K.out W0 (Below.refl _ _)
 clear B0 K
 have hd : decide (s1 ≤ 4) = false := by simp; omega
 go_enter Tryz.func28, Tryz.ntmps28
 go_wp2_with (go_at_call 56; refine (rwithin_any _).mono ?_; rintro e w1 ⟨rfl, hw1⟩; obtain rfl := hw1.symm)
 go_ret
 exact ⟨rfl, HB.out⟩
theorem rcheck_lo2 {s0 s1 s2 s3 s4 s5 : Int} (p0 : 1 ≤ s0) (q0 : s0 ≤ 64) (p1 : 0 ≤ s1) (q1 : s1 ≤ 4) (hz : ¬ 1 ≤ s2) (w : World) : Calls Tryz.prog 28 #[.agg #[.int .i64 s0, .int .i64 s1, .int .i64 s2, .int .i64 s3, .int .i64 s4, .int .i64 s5]] w fun e w' => e = .returned (.int .i64 120) ∧ Below w.heap.size w w' := by
 obtain ⟨W0, hW0, B0, K⟩ := box w s0 s1 s2 s3 s4 s5
 have HB := hide B0
 obtain ⟨-, l0, x0, x1, x2, x3, x4, x5⟩ := K.out W0 (Below.refl _ _)
 clear B0 K
 have hd : (decide (1 ≤ s2) && decide (s2 ≤ 7)) = false := by simp; omega
 go_enter Tryz.func28, Tryz.ntmps28
 go_wp2_with (go_at_call 56; refine (rwithin_any _).mono ?_; rintro e w1 ⟨rfl, hw1⟩; obtain rfl := hw1.symm)
 go_ret
 exact ⟨rfl, HB.out⟩
theorem rcheck_hi2 {s0 s1 s2 s3 s4 s5 : Int} (p0 : 1 ≤ s0) (q0 : s0 ≤ 64) (p1 : 0 ≤ s1) (q1 : s1 ≤ 4) (p2 : 1 ≤ s2) (hz : ¬ s2 ≤ 7) (w : World) : Calls Tryz.prog 28 #[.agg #[.int .i64 s0, .int .i64 s1, .int .i64 s2, .int .i64 s3, .int .i64 s4, .int .i64 s5]] w fun e w' => e = .returned (.int .i64 120) ∧ Below w.heap.size w w' := by
 obtain ⟨W0, hW0, B0, K⟩ := box w s0 s1 s2 s3 s4 s5
 have HB := hide B0
 obtain ⟨-, l0, x0, x1, x2, x3, x4, x5⟩ := K.out W0 (Below.refl _ _)
 clear B0 K
 have hd : decide (s2 ≤ 7) = false := by simp; omega
 go_enter Tryz.func28, Tryz.ntmps28
 go_wp2_with (go_at_call 56; refine (rwithin_any _).mono ?_; rintro e w1 ⟨rfl, hw1⟩; obtain rfl := hw1.symm)
 go_ret
 exact ⟨rfl, HB.out⟩
theorem rcheck_lo3 {s0 s1 s2 s3 s4 s5 : Int} (p0 : 1 ≤ s0) (q0 : s0 ≤ 64) (p1 : 0 ≤ s1) (q1 : s1 ≤ 4) (p2 : 1 ≤ s2) (q2 : s2 ≤ 7) (hz : ¬ 1 ≤ s3) (w : World) : Calls Tryz.prog 28 #[.agg #[.int .i64 s0, .int .i64 s1, .int .i64 s2, .int .i64 s3, .int .i64 s4, .int .i64 s5]] w fun e w' => e = .returned (.int .i64 120) ∧ Below w.heap.size w w' := by
 obtain ⟨W0, hW0, B0, K⟩ := box w s0 s1 s2 s3 s4 s5
 have HB := hide B0
 obtain ⟨-, l0, x0, x1, x2, x3, x4, x5⟩ := K.out W0 (Below.refl _ _)
 clear B0 K
 have hd : (decide (1 ≤ s3) && decide (s3 ≤ 8)) = false := by simp; omega
 go_enter Tryz.func28, Tryz.ntmps28
 go_wp2_with (go_at_call 56; refine (rwithin_any _).mono ?_; rintro e w1 ⟨rfl, hw1⟩; obtain rfl := hw1.symm)
 go_ret
 exact ⟨rfl, HB.out⟩
theorem rcheck_hi3 {s0 s1 s2 s3 s4 s5 : Int} (p0 : 1 ≤ s0) (q0 : s0 ≤ 64) (p1 : 0 ≤ s1) (q1 : s1 ≤ 4) (p2 : 1 ≤ s2) (q2 : s2 ≤ 7) (p3 : 1 ≤ s3) (hz : ¬ s3 ≤ 8) (w : World) : Calls Tryz.prog 28 #[.agg #[.int .i64 s0, .int .i64 s1, .int .i64 s2, .int .i64 s3, .int .i64 s4, .int .i64 s5]] w fun e w' => e = .returned (.int .i64 120) ∧ Below w.heap.size w w' := by
 obtain ⟨W0, hW0, B0, K⟩ := box w s0 s1 s2 s3 s4 s5
 have HB := hide B0
 obtain ⟨-, l0, x0, x1, x2, x3, x4, x5⟩ := K.out W0 (Below.refl _ _)
 clear B0 K
 have hd : decide (s3 ≤ 8) = false := by simp; omega
 go_enter Tryz.func28, Tryz.ntmps28
 go_wp2_with (go_at_call 56; refine (rwithin_any _).mono ?_; rintro e w1 ⟨rfl, hw1⟩; obtain rfl := hw1.symm)
 go_ret
 exact ⟨rfl, HB.out⟩
theorem rcheck_lo4 {s0 s1 s2 s3 s4 s5 : Int} (p0 : 1 ≤ s0) (q0 : s0 ≤ 64) (p1 : 0 ≤ s1) (q1 : s1 ≤ 4) (p2 : 1 ≤ s2) (q2 : s2 ≤ 7) (p3 : 1 ≤ s3) (q3 : s3 ≤ 8) (hz : ¬ 0 ≤ s4) (w : World) : Calls Tryz.prog 28 #[.agg #[.int .i64 s0, .int .i64 s1, .int .i64 s2, .int .i64 s3, .int .i64 s4, .int .i64 s5]] w fun e w' => e = .returned (.int .i64 120) ∧ Below w.heap.size w w' := by
 obtain ⟨W0, hW0, B0, K⟩ := box w s0 s1 s2 s3 s4 s5
 have HB := hide B0
 obtain ⟨-, l0, x0, x1, x2, x3, x4, x5⟩ := K.out W0 (Below.refl _ _)
 clear B0 K
 have hd : (decide (0 ≤ s4) && decide (s4 ≤ 16)) = false := by simp; omega
 go_enter Tryz.func28, Tryz.ntmps28
 go_wp2_with (go_at_call 56; refine (rwithin_any _).mono ?_; rintro e w1 ⟨rfl, hw1⟩; obtain rfl := hw1.symm)
 go_ret
 exact ⟨rfl, HB.out⟩
theorem rcheck_hi4 {s0 s1 s2 s3 s4 s5 : Int} (p0 : 1 ≤ s0) (q0 : s0 ≤ 64) (p1 : 0 ≤ s1) (q1 : s1 ≤ 4) (p2 : 1 ≤ s2) (q2 : s2 ≤ 7) (p3 : 1 ≤ s3) (q3 : s3 ≤ 8) (p4 : 0 ≤ s4) (hz : ¬ s4 ≤ 16) (w : World) : Calls Tryz.prog 28 #[.agg #[.int .i64 s0, .int .i64 s1, .int .i64 s2, .int .i64 s3, .int .i64 s4, .int .i64 s5]] w fun e w' => e = .returned (.int .i64 120) ∧ Below w.heap.size w w' := by
 obtain ⟨W0, hW0, B0, K⟩ := box w s0 s1 s2 s3 s4 s5
 have HB := hide B0
 obtain ⟨-, l0, x0, x1, x2, x3, x4, x5⟩ := K.out W0 (Below.refl _ _)
 clear B0 K
 have hd : decide (s4 ≤ 16) = false := by simp; omega
 go_enter Tryz.func28, Tryz.ntmps28
 go_wp2_with (go_at_call 56; refine (rwithin_any _).mono ?_; rintro e w1 ⟨rfl, hw1⟩; obtain rfl := hw1.symm)
 go_ret
 exact ⟨rfl, HB.out⟩
theorem rcheck_bad {s0 s1 s2 s3 s4 s5 : Int} (H : ¬ R5 s0 s1 s2 s3 s4) (w : World) : Calls Tryz.prog 28 #[.agg #[.int .i64 s0, .int .i64 s1, .int .i64 s2, .int .i64 s3, .int .i64 s4, .int .i64 s5]] w fun e w' => e = .returned (.int .i64 120) ∧ Below w.heap.size w w' := by
 by_cases p0 : 1 ≤ s0
 case neg => exact rcheck_lo0  p0 w
 by_cases q0 : s0 ≤ 64
 case neg => exact rcheck_hi0  p0 q0 w
 by_cases p1 : 0 ≤ s1
 case neg => exact rcheck_lo1 p0 q0 p1 w
 by_cases q1 : s1 ≤ 4
 case neg => exact rcheck_hi1 p0 q0 p1 q1 w
 by_cases p2 : 1 ≤ s2
 case neg => exact rcheck_lo2 p0 q0 p1 q1 p2 w
 by_cases q2 : s2 ≤ 7
 case neg => exact rcheck_hi2 p0 q0 p1 q1 p2 q2 w
 by_cases p3 : 1 ≤ s3
 case neg => exact rcheck_lo3 p0 q0 p1 q1 p2 q2 p3 w
 by_cases q3 : s3 ≤ 8
 case neg => exact rcheck_hi3 p0 q0 p1 q1 p2 q2 p3 q3 w
 by_cases p4 : 0 ≤ s4
 case neg => exact rcheck_lo4 p0 q0 p1 q1 p2 q2 p3 q3 p4 w
 by_cases q4 : s4 ≤ 16
 case neg => exact rcheck_hi4 p0 q0 p1 q1 p2 q2 p3 q3 p4 q4 w
 exact absurd ⟨⟨p0, q0⟩, ⟨p1, q1⟩, ⟨p2, q2⟩, ⟨p3, q3⟩, ⟨p4, q4⟩⟩ H
end Shape
end
end Go.Proofs.YtppgbndoijppnaaGreat
