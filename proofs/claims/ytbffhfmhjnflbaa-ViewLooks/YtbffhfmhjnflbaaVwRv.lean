/-
  View: the document's places of a right shape
-/
import Derived.Test.YtbffhfmhjnflbaaVsR
import Derived.Test.YtbffhfmhjnflbaaVwX
import Derived.Test.YtbffhfmhjnflbaaVwF
namespace Go.Proofs.Ytbffhfmhjnflbaa
open Go.RowKit
set_option linter.unusedVariables false
set_option linter.unusedSimpArgs false
set_option linter.unnecessarySimpa false
set_option maxRecDepth 20000
namespace Vw
open Shape

theorem wJ {x y : Int} (h : x = y) (h1 : -9223372036854775808 ≤ y) (h2 : y ≤ 9223372036854775807) : IntKind.i64.wrap x = y := by rw [h, IntKind.wrap_i64]; omega
section
variable {o s h r k : Nat} {s5 : Int} (H : (⟨o, s, h, r, k⟩ : Sh).Ok)
include H
theorem rs_ack (w : World) : Calls Try.prog 23 #[.agg #[.int .i64 (o : Int), .int .i64 (s : Int), .int .i64 (h : Int), .int .i64 (r : Int), .int .i64 (k : Int), .int .i64 s5], .int .i64 0] w fun e w' => e = .returned (.tuple #[.int .i64 8, .int .i64 0]) ∧ Below w.heap.size w w' := by
  have h1 : 0 < h := H.h1
  have h2 : h ≤ 7 := H.h2
  refine rack_of (q := true) (fun w1 => ?_) (fun w1 => ?_) w
  · rw [wJ (y := (h : Int) - 1) rfl (by omega) (by omega)]; exact rwithin_t (by omega) (by omega) w1
  · have := place_ok (s5 := s5) (r5 H) 8 w1
    exact this
theorem rs_weak {j : Nat} (hj : j < k) (w : World) : Calls Try.prog 26 #[.agg #[.int .i64 (o : Int), .int .i64 (s : Int), .int .i64 (h : Int), .int .i64 (r : Int), .int .i64 (k : Int), .int .i64 s5], .int .i64 (j : Int)] w fun e w' => e = .returned (.tuple #[.int .i64 ((bK ⟨o, s, h, r, k⟩ + j : Nat) : Int), .int .i64 0]) ∧ Below w.heap.size w w' := by
  have h2 : h ≤ 7 := H.h2
  have k2 : k ≤ 16 := H.k2
  have hp := (sizes H).1
  simp only at hp
  have hl := lay_out ⟨o, s, h, r, k⟩
  simp only at hl
  refine rweak_of (q := true) (fun w1 => ?_) (fun w1 => ?_) w
  · rw [wJ (y := (k : Int) - 1) rfl (by omega) (by omega)]; exact rwithin_t (by omega) (by omega) w1
  · rw [wJ (x := 8 + (h : Int)) rfl (by omega) (by omega), wJ (x := (h : Int) * (r : Int)) (y := ((h * r : Nat) : Int)) (by simp) (by omega) (by omega), wJ (x := 8 + (h : Int) + ((h * r : Nat) : Int)) rfl (by omega) (by omega), wJ (x := 8 + (h : Int) + ((h * r : Nat) : Int) + (j : Int)) (y := ((bK ⟨o, s, h, r, k⟩ + j : Nat) : Int)) (by omega) (by omega) (by omega)]; exact place_ok (r5 H) _ w1
theorem rs_root {j : Nat} (hj : j < h) (w : World) : Calls Try.prog 25 #[.agg #[.int .i64 (o : Int), .int .i64 (s : Int), .int .i64 (h : Int), .int .i64 (r : Int), .int .i64 (k : Int), .int .i64 s5], .int .i64 (j : Int), .int .i64 0] w fun e w' => e = .returned (.tuple #[.int .i64 ((bR ⟨o, s, h, r, k⟩ + j * r : Nat) : Int), .int .i64 0]) ∧ Below w.heap.size w w' := by
  have h2 : h ≤ 7 := H.h2
  have r1 : 0 < r := H.r1
  have r2 : r ≤ 8 := H.r2
  have hp := (at_root H (j := j) hj).2
  have hl := lay_out ⟨o, s, h, r, k⟩
  simp only at hp hl
  refine rroot_t (q2 := true) (fun w1 => ?_) (fun w1 => ?_) (fun w1 => ?_) w
  · rw [wJ (y := (h : Int) - 1) rfl (by omega) (by omega)]; exact rwithin_t (by omega) (by omega) w1
  · rw [wJ (y := (r : Int) - 1) rfl (by omega) (by omega)]; exact rwithin_t (by omega) (by omega) w1
  · rw [wJ (x := 8 + (h : Int)) rfl (by omega) (by omega), wJ (x := (j : Int) * (r : Int)) (y := ((j * r : Nat) : Int)) (by simp) (by omega) (by omega), wJ (x := 8 + (h : Int) + ((j * r : Nat) : Int)) rfl (by omega) (by omega), wJ (x := 8 + (h : Int) + ((j * r : Nat) : Int) + 0) (y := ((bR ⟨o, s, h, r, k⟩ + j * r : Nat) : Int)) (by omega) (by omega) (by omega)]; exact place_ok (r5 H) _ w1
theorem rs_obj {m : Nat} (hm : m < o) (w : World) : Calls Try.prog 27 #[.agg #[.int .i64 (o : Int), .int .i64 (s : Int), .int .i64 (h : Int), .int .i64 (r : Int), .int .i64 (k : Int), .int .i64 s5], .int .i64 ((m : Int) + 1)] w fun e w' => e = .returned (.tuple #[.int .i64 ((pO ⟨o, s, h, r, k⟩ m : Nat) : Int), .int .i64 0]) ∧ Below w.heap.size w w' := by
  have h2 : h ≤ 7 := H.h2
  have o2 : o ≤ 64 := H.o2
  have s2 : s ≤ 4 := H.s2
  have k2 : k ≤ 16 := H.k2
  have hp := (sizes H).1
  simp only at hp
  have hq := (at_obj H (j := m) hm).2
  have hl := lay_out ⟨o, s, h, r, k⟩
  have hpo : pO ⟨o, s, h, r, k⟩ m = bO ⟨o, s, h, r, k⟩ + m * ow ⟨o, s, h, r, k⟩ := rfl
  simp only at hl hq
  rw [hl.2.2.2.2] at hq hpo
  refine robject_of (q := true) (fun w1 => ?_) (fun w1 => ?_) w
  · have := rwithin_t (n := (m : Int) + 1) (lo := 1) (hi := (o : Int)) (by omega) (by omega) w1
    exact this
  · rw [wJ (x := 8 + (h : Int)) rfl (by omega) (by omega), wJ (x := (h : Int) * (r : Int)) (y := ((h * r : Nat) : Int)) (by simp) (by omega) (by omega), wJ (x := 8 + (h : Int) + ((h * r : Nat) : Int)) rfl (by omega) (by omega), wJ (x := 8 + (h : Int) + ((h * r : Nat) : Int) + (k : Int)) rfl (by omega) (by omega), wJ (x := (m : Int) + 1 - 1) (y := (m : Int)) (by omega) (by omega) (by omega), wJ (x := 3 + (s : Int)) rfl (by omega) (by omega), wJ (x := (m : Int) * (3 + (s : Int))) (y := ((m * (3 + s) : Nat) : Int)) (by simp) (by omega) (by omega), wJ (x := 8 + (h : Int) + ((h * r : Nat) : Int) + (k : Int) + ((m * (3 + s) : Nat) : Int)) (y := ((pO ⟨o, s, h, r, k⟩ m : Nat) : Int)) (by omega) (by omega) (by omega)]
    exact place_ok (r5 H) _ w1
end
end Vw
end Go.Proofs.Ytbffhfmhjnflbaa
