/-
  Lemmas: ShapeB, ShapeD.
-/
import Derived.Test.YtppgbndoijppnaaGreatTp23
namespace Go.Proofs.YtppgbndoijppnaaGreat
set_option maxHeartbeats 8000000
open Go.RowKit
set_option linter.unusedVariables false
set_option linter.unusedSimpArgs false
set_option linter.unnecessarySimpa false
set_option maxRecDepth 20000
section
namespace Shape
theorem ackAt_any {n : Int} (h0 : 0 ≤ n) (h1 : n ≤ 1000) (w : World) : Calls Tryz.prog 125 #[.int .i64 n] w fun e w' => e = .returned (.int .i64 (8 + n)) ∧ w' = w := by
 go_enter Tryz.func125, Tryz.ntmps125
 go_wp2
 go_ret
 exact ⟨rfl, rfl⟩
theorem rootAt_any {o s h r k : Nat} {s5 : Int} {i j p : Nat} (hh : h ≤ 7) (hj : j ≤ 8) (hp : i * r = p) (hp2 : p ≤ 56) (w : World) : Calls Tryz.prog 106 #[.agg #[.int .i64 (o : Int), .int .i64 (s : Int), .int .i64 (h : Int), .int .i64 (r : Int), .int .i64 (k : Int), .int .i64 s5], .int .i64 (i : Int), .int .i64 (j : Int)] w fun e w' => e = .returned (.int .i64 (8 + (h : Int) + (p : Int) + (j : Int))) ∧ Below w.heap.size w w' := by
 obtain ⟨W0, hW0, B0, K⟩ := box w (o : Int) (s : Int) (h : Int) (r : Int) (k : Int) s5
 have HB := hide B0
 obtain ⟨-, l0, x0, x1, x2, x3, x4, x5⟩ := K.out W0 (Below.refl _ _)
 clear B0
 have hp' : (i : Int) * (r : Int) = (p : Int) := by rw [← hp]; simp
 clear hp
 go_enter Tryz.func106, Tryz.ntmps106
 go_wp2_with fail
 go_quiet ((go_at_call 125; exact Calls.quiet_of_same (ackAt_any (by omega) (by omega) _)))
 go_wp2_with fail
 go_ret
 exact ⟨rfl, below_drewN HB.out _⟩
theorem objectWords_any {o s h r k : Nat} {s5 : Int} (hs : s ≤ 4) (w : World) : Calls Tryz.prog 72 #[.agg #[.int .i64 (o : Int), .int .i64 (s : Int), .int .i64 (h : Int), .int .i64 (r : Int), .int .i64 (k : Int), .int .i64 s5]] w fun e w' => e = .returned (.int .i64 (3 + (s : Int))) ∧ Below w.heap.size w w' := by
 obtain ⟨W0, hW0, B0, K⟩ := box w (o : Int) (s : Int) (h : Int) (r : Int) (k : Int) s5
 have HB := hide B0
 obtain ⟨-, l0, x0, x1, x2, x3, x4, x5⟩ := K.out W0 (Below.refl _ _)
 clear B0
 go_enter Tryz.func72, Tryz.ntmps72
 go_wp2_with fail
 go_ret
 exact ⟨rfl, HB.out⟩
theorem weakAt_any {o s h r k : Nat} {s5 : Int} {i p : Nat} (hh : h ≤ 7) (hi : i ≤ 16) (hp : h * r = p) (hp2 : p ≤ 56) (w : World) : Calls Tryz.prog 71 #[.agg #[.int .i64 (o : Int), .int .i64 (s : Int), .int .i64 (h : Int), .int .i64 (r : Int), .int .i64 (k : Int), .int .i64 s5], .int .i64 (i : Int)] w fun e w' => e = .returned (.int .i64 (8 + (h : Int) + (p : Int) + (i : Int))) ∧ Below w.heap.size w w' := by
 obtain ⟨W0, hW0, B0, K⟩ := box w (o : Int) (s : Int) (h : Int) (r : Int) (k : Int) s5
 have HB := hide B0
 obtain ⟨-, l0, x0, x1, x2, x3, x4, x5⟩ := K.out W0 (Below.refl _ _)
 clear B0
 have RA := hide (fun w1 => rootAt_any (o := o) (s := s) (k := k) (s5 := s5) (i := h) (j := 0) hh (by omega) hp hp2 w1)
 clear hp
 go_enter Tryz.func71, Tryz.ntmps71
 go_wp2_with (go_at_call 106; refine (RA.out _).mono ?_; rintro e w1 ⟨rfl, hb1⟩; have HB1 := hide hb1; clear hb1)
 go_ret
 exact ⟨rfl, (K.out _ HB1.out).1⟩
end Shape
end
section
namespace Shape
theorem objectAt_any {o s h r k : Nat} {s5 : Int} {i p q : Nat} (hh : h ≤ 7) (hs : s ≤ 4) (hk : k ≤ 16) (hp : h * r = p) (hp2 : p ≤ 56) (hi : 1 ≤ i) (hi2 : i ≤ 65) (hq : (i - 1) * (3 + s) = q) (hq2 : q ≤ 448) (w : World) : Calls Tryz.prog 42 #[.agg #[.int .i64 (o : Int), .int .i64 (s : Int), .int .i64 (h : Int), .int .i64 (r : Int), .int .i64 (k : Int), .int .i64 s5], .int .i64 (i : Int)] w fun e w' => e = .returned (.int .i64 (8 + (h : Int) + (p : Int) + (k : Int) + (q : Int))) ∧ Below w.heap.size w w' := by
 obtain ⟨W0, hW0, B0, K⟩ := box w (o : Int) (s : Int) (h : Int) (r : Int) (k : Int) s5
 have HB := hide B0
 obtain ⟨-, l0, x0, x1, x2, x3, x4, x5⟩ := K.out W0 (Below.refl _ _)
 clear B0
 have WA := hide (fun w1 => weakAt_any (o := o) (s := s) (k := k) (s5 := s5) (i := k) hh hk hp hp2 w1)
 have OW := hide (fun w1 => objectWords_any (o := o) (h := h) (r := r) (k := k) (s5 := s5) hs w1)
 have hq' : ((i : Int) - 1) * (3 + (s : Int)) = (q : Int) := by rw [← hq, Int.natCast_mul]; congr 1; omega
 clear hp hq
 go_enter Tryz.func42, Tryz.ntmps42
 go_wp2_with fail
 go_region_held (fun w' => w'.cell? ⟨w.heap.size, 0, none⟩ = some (.int .i64 (o : Int)) ∧ w'.cell? ⟨w.heap.size, 1, none⟩ = some (.int .i64 (s : Int)) ∧ w'.cell? ⟨w.heap.size, 2, none⟩ = some (.int .i64 (h : Int)) ∧ w'.cell? ⟨w.heap.size, 3, none⟩ = some (.int .i64 (r : Int)) ∧ w'.cell? ⟨w.heap.size, 4, none⟩ = some (.int .i64 (k : Int)) ∧ w'.cell? ⟨w.heap.size, 5, none⟩ = some (.int .i64 s5)) (go_keep) (first | (have hx1 := HB1.out; clear hx1; go_at_call 71; refine (WA.out _).mono ?_; rintro e w2 ⟨rfl, hb2⟩; have HB2 := hide (HB1.out.trans ((show Below w1.heap.size w1 w2 from ⟨hb2.os, hb2.tape, hb2.output, hb2.size, hb2.block⟩).mono HB1.out.size)); clear hb2; obtain ⟨-, m2, y20, y21, y22, y23, y24, y25⟩ := K.out w2 HB2.out) | (go_at_call 71; refine (WA.out _).mono ?_; rintro e w1 ⟨rfl, hb1⟩; have HB1 := hide (show Below W0.heap.size W0 w1 from ⟨hb1.os, hb1.tape, hb1.output, hb1.size, hb1.block⟩); clear hb1; obtain ⟨-, m1, y10, y11, y12, y13, y14, y15⟩ := K.out w1 HB1.out) | (have hx1 := HB1.out; clear hx1; go_at_call 72; refine (OW.out _).mono ?_; rintro e w2 ⟨rfl, hb2⟩; have HB2 := hide (HB1.out.trans ((show Below w1.heap.size w1 w2 from ⟨hb2.os, hb2.tape, hb2.output, hb2.size, hb2.block⟩).mono HB1.out.size)); clear hb2; obtain ⟨-, m2, y20, y21, y22, y23, y24, y25⟩ := K.out w2 HB2.out) | (go_at_call 72; refine (OW.out _).mono ?_; rintro e w1 ⟨rfl, hb1⟩; have HB1 := hide (show Below W0.heap.size W0 w1 from ⟨hb1.os, hb1.tape, hb1.output, hb1.size, hb1.block⟩); clear hb1; obtain ⟨-, m1, y10, y11, y12, y13, y14, y15⟩ := K.out w1 HB1.out))
 all_goals go_wp2_with fail
 all_goals go_ret
 all_goals refine ⟨?_, (K.out _ HB2.out).1⟩
 all_goals show Ending.returned (.int .i64 (IntKind.i64.wrap (8 + (h : Int) + (p : Int) + (k : Int) + IntKind.i64.wrap (IntKind.i64.wrap ((i : Int) - 1) * (3 + (s : Int)))))) = _
 all_goals rw [wI (x := (i : Int) - 1) (by omega) (by omega), hq', wI (x := (q : Int)) (by omega) (by omega), wI (by omega) (by omega)]
end Shape
end
end Go.Proofs.YtppgbndoijppnaaGreat
