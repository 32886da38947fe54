/-
  Shape: the laws' example.
-/
import Derived.Test.YtfnfoebmpggmdaaDoorShapeI
namespace Go.Proofs.YtfnfoebmpggmdaaDoor
open Go.RowKit
set_option linter.unusedVariables false
set_option linter.unusedSimpArgs false
set_option linter.unnecessarySimpa false
set_option maxRecDepth 20000
namespace Shape

theorem ok2 : (⟨2, 1, 1, 2, 1⟩ : Sh).Ok := ⟨by decide, by decide, by decide, by decide, by decide, by decide, by decide, by decide⟩
theorem nm15 : nm ⟨2, 1, 1, 2, 1⟩ 15 = [115, 108, 111, 116, 32, 49, 32, 48] := by
  show render (tSlot, [1, 0]) = _
  simp only [render, tail]
  rw [Lib.decDigits_one (show 1 < 10 by decide), Lib.decDigits_one (show 0 < 10 by decide)]
  rfl
set_option maxHeartbeats 2000000 in
theorem awake_ok {w : World} (TB : Tab w) : Calls Tryd.prog 6 #[] w fun e w' => e = .returned (.bool true) ∧ Below w.heap.size w w' := by
  have SZ := hide (fun (w1 : World) => show Calls Tryd.prog 7 #[.agg #[.int .i64 2, .int .i64 1, .int .i64 1, .int .i64 2, .int .i64 1, .int .i64 0]] w1 fun e w' => e = .returned (.tuple #[.int .i64 20, .int .i64 0]) ∧ Below w1.heap.size w1 w' from size_ok (s5 := 0) ok2 w1)
  have SL := hide (fun (w1 : World) => show Calls Tryd.prog 12 #[.agg #[.int .i64 2, .int .i64 1, .int .i64 1, .int .i64 2, .int .i64 1, .int .i64 0], .int .i64 2, .int .i64 0] w1 fun e w' => e = .returned (.tuple #[.int .i64 19, .int .i64 0]) ∧ Below w1.heap.size w1 w' from slot_ok (s5 := 0) (a := 2) (b := 0) (p := 2) (q := 4) ok2 rfl (by decide) (by decide) rfl (by decide) (by decide) w1)
  have NA := hide (fun (w1 : World) (T1 : Tab w1) => show Calls Tryd.prog 13 #[.agg #[.int .i64 2, .int .i64 1, .int .i64 1, .int .i64 2, .int .i64 1, .int .i64 0], .int .i64 15] w1 fun e w' => e = .returned (.tuple #[.string ⟨#[115, 108, 111, 116, 32, 49, 32, 48]⟩, .int .i64 0]) ∧ Below w1.heap.size w1 w' from by
    have := name_ok (s5 := 0) (a := 15) ok2 (by decide) T1
    rw [nm15] at this
    exact this)
  have CB := hide (fun (w1 : World) => show Calls Tryd.prog 21 #[.agg #[.int .i64 0, .int .i64 0, .int .i64 0, .int .i64 0, .int .i64 0, .int .i64 0]] w1 fun e w' => e = .returned (.int .i64 120) ∧ Below w1.heap.size w1 w' from check_bad (by unfold R5; omega) w1)
  have HT := hide TB
  clear TB
  go_enter Tryd.func6, Tryd.ntmps6
  go_upto_region 2 with (fail)
  obtain ⟨W0, hW0, B0, K⟩ := box w 2 1 1 2 1 0
  try rw [hW0]
  clear hW0
  have HB := hide B0
  obtain ⟨-, l0, x0, x1, x2, x3, x4, x5⟩ := K.out W0 (Below.refl _ _)
  clear B0
  go_wp2_with (first | (go_at_call 7; refine (SZ.out _).mono ?_; rintro e w1 ⟨rfl, hb1⟩; have HB1 := hide hb1; clear hb1; obtain ⟨-, m1, y0, y1, y2, y3, y4, y5⟩ := K.out w1 HB1.out) | (go_at_call 12; refine (SL.out _).mono ?_; rintro e w2 ⟨rfl, hb2⟩; have HB2 := hide (HB1.out.trans (hb2.mono HB1.out.size)); clear hb2; obtain ⟨-, m2, u0, u1, u2, u3, u4, u5⟩ := K.out w2 HB2.out) | (go_at_call 13; refine (NA.out _ (HT.out.below (K.out _ HB2.out).1 HT.out.1)).mono ?_; rintro e w3 ⟨rfl, hb3⟩; have HB3 := hide (HB2.out.trans (hb3.mono HB2.out.size)); clear hb3) | (go_at_call 21; refine (CB.out _).mono ?_; rintro e w4 ⟨rfl, hb4⟩; have HB4 := hide (HB3.out.trans (hb4.mono HB3.out.size)); clear hb4))
  go_ret
  exact ⟨rfl, (K.out _ HB4.out).1⟩
end Shape
end Go.Proofs.YtfnfoebmpggmdaaDoor
