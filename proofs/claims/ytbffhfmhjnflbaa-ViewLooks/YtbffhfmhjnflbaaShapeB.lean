/-
  Shape: where the parts begin, for right shapes.
-/
import Derived.Test.YtbffhfmhjnflbaaShapeA
namespace Go.Proofs.Ytbffhfmhjnflbaa
open Go.RowKit
set_option linter.unusedVariables false
set_option linter.unusedSimpArgs false
set_option linter.unnecessarySimpa false
set_option maxRecDepth 20000
namespace Shape

theorem ackAt_any {n : Int} (h0 : 0 ≤ n) (h1 : n ≤ 1000) (w : World) : Calls Try.prog 97 #[.int .i64 n] w fun e w' => e = .returned (.int .i64 (8 + n)) ∧ w' = w := by
  go_enter Try.func97, Try.ntmps97
  go_wp2
  go_ret
  exact ⟨rfl, rfl⟩

theorem rootAt_any {o s h r k : Nat} {s5 : Int} {i j p : Nat} (hh : h ≤ 7) (hj : j ≤ 8) (hp : i * r = p) (hp2 : p ≤ 56) (w : World) : Calls Try.prog 94 #[.agg #[.int .i64 (o : Int), .int .i64 (s : Int), .int .i64 (h : Int), .int .i64 (r : Int), .int .i64 (k : Int), .int .i64 s5], .int .i64 (i : Int), .int .i64 (j : Int)] w fun e w' => e = .returned (.int .i64 (8 + (h : Int) + (p : Int) + (j : Int))) ∧ Below w.heap.size w w' := by
  obtain ⟨W0, hW0, B0, K⟩ := box w (o : Int) (s : Int) (h : Int) (r : Int) (k : Int) s5
  have HB := hide B0
  obtain ⟨-, l0, x0, x1, x2, x3, x4, x5⟩ := K.out W0 (Below.refl _ _)
  clear B0
  have hp' : (i : Int) * (r : Int) = (p : Int) := by rw [← hp]; simp
  clear hp
  go_enter Try.func94, Try.ntmps94
  go_wp2_with fail
  go_quiet ((go_at_call 97; exact Calls.quiet_of_same (ackAt_any (by omega) (by omega) _)))
  go_wp2_with fail
  go_ret
  exact ⟨rfl, below_drewN HB.out _⟩

theorem objectWords_any {o s h r k : Nat} {s5 : Int} (hs : s ≤ 4) (w : World) : Calls Try.prog 77 #[.agg #[.int .i64 (o : Int), .int .i64 (s : Int), .int .i64 (h : Int), .int .i64 (r : Int), .int .i64 (k : Int), .int .i64 s5]] w fun e w' => e = .returned (.int .i64 (3 + (s : Int))) ∧ Below w.heap.size w w' := by
  obtain ⟨W0, hW0, B0, K⟩ := box w (o : Int) (s : Int) (h : Int) (r : Int) (k : Int) s5
  have HB := hide B0
  obtain ⟨-, l0, x0, x1, x2, x3, x4, x5⟩ := K.out W0 (Below.refl _ _)
  clear B0
  go_enter Try.func77, Try.ntmps77
  go_wp2_with fail
  go_ret
  exact ⟨rfl, HB.out⟩

theorem weakAt_any {o s h r k : Nat} {s5 : Int} {i p : Nat} (hh : h ≤ 7) (hi : i ≤ 16) (hp : h * r = p) (hp2 : p ≤ 56) (w : World) : Calls Try.prog 76 #[.agg #[.int .i64 (o : Int), .int .i64 (s : Int), .int .i64 (h : Int), .int .i64 (r : Int), .int .i64 (k : Int), .int .i64 s5], .int .i64 (i : Int)] w fun e w' => e = .returned (.int .i64 (8 + (h : Int) + (p : Int) + (i : Int))) ∧ Below w.heap.size w w' := by
  obtain ⟨W0, hW0, B0, K⟩ := box w (o : Int) (s : Int) (h : Int) (r : Int) (k : Int) s5
  have HB := hide B0
  obtain ⟨-, l0, x0, x1, x2, x3, x4, x5⟩ := K.out W0 (Below.refl _ _)
  clear B0
  have RA := hide (fun w1 => rootAt_any (o := o) (s := s) (k := k) (s5 := s5) (i := h) (j := 0) hh (by omega) hp hp2 w1)
  clear hp
  go_enter Try.func76, Try.ntmps76
  go_wp2_with (go_at_call 94; refine (RA.out _).mono ?_; rintro e w1 ⟨rfl, hb1⟩; have HB1 := hide hb1; clear hb1)
  go_ret
  exact ⟨rfl, (K.out _ HB1.out).1⟩
end Shape
end Go.Proofs.Ytbffhfmhjnflbaa
