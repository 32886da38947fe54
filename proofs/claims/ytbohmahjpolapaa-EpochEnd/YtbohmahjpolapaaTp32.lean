/-
  Lemmas: EpochLA.
-/
import Derived.Test.YtbohmahjpolapaaTp31
import Derived.Deep.CutRange
import Derived.Deep.CutBlock
/-
  The epoch's Fresh, and the statements' own example through it.
-/
namespace Go.Proofs.Ytbohmahjpolapaa
open Go.RowKit
set_option linter.unusedVariables false
set_option linter.unusedSimpArgs false
set_option maxRecDepth 20000
namespace Epoch


set_option maxHeartbeats 4000000 in
theorem alive_any (w : World) : Calls Try.prog 9 #[] w fun e w' => e = .returned (.bool true) ∧ Below w.heap.size w w' := by
  have E1 := hide exam_play1
  have E2 := hide exam_play2
  have FR := hide (fun w' : World => fresh_ok w' ⟨0, 0, 0, 0, 0, 2⟩ (by decide) (by decide) (want := 11) (by decide))
  simp only [Shp.val] at E1 E2 FR
  obtain ⟨W0, hW0⟩ : ∃ W0, w.alloc (.cells #[.int .i64 0, .int .i64 0, .int .i64 0, .int .i64 0, .int .i64 0, .int .i64 2] 23) = W0 := ⟨_, rfl⟩
  have b0 : Below w.heap.size w W0 := by rw [← hW0]; exact (Below.refl _ w).alloc (Nat.le_refl _) _
  have z0 : W0.heap.size = w.heap.size + 1 := by rw [← hW0]; simp
  have R0 : W0.rowIs w.heap.size 23 6 (fun i => (#[Value.int .i64 0, .int .i64 0, .int .i64 0, .int .i64 0, .int .i64 0, .int .i64 2]).getD i undef) := by rw [← hW0]; exact row_arr w _ _
  have keep : Hid (∀ w' : World, Below W0.heap.size W0 w' → Below w.heap.size w w' ∧ w.heap.size < w'.heap.size ∧ w'.cell? ⟨w.heap.size, 0, none⟩ = some (.int .i64 0) ∧ w'.cell? ⟨w.heap.size, 1, none⟩ = some (.int .i64 0) ∧ w'.cell? ⟨w.heap.size, 2, none⟩ = some (.int .i64 0) ∧ w'.cell? ⟨w.heap.size, 3, none⟩ = some (.int .i64 0) ∧ w'.cell? ⟨w.heap.size, 4, none⟩ = some (.int .i64 0) ∧ w'.cell? ⟨w.heap.size, 5, none⟩ = some (.int .i64 2)) := fun w' hb => by
    have r := R0.of_block (hb.block w.heap.size R0.lt)
    exact ⟨b0.trans (hb.mono b0.size), r.lt, r.cell (i := 0) (by decide), r.cell (i := 1) (by decide), r.cell (i := 2) (by decide), r.cell (i := 3) (by decide), r.cell (i := 4) (by decide), r.cell (i := 5) (by decide)⟩
  obtain ⟨-, l0, c0, c1, c2, c3, c4, c5⟩ := keep.out W0 (Below.refl _ _)
  clear b0 R0
  go_enter Try.func9, Try.ntmps9
  go_wp2_with fail
  refine (FR.out W0).mono ?_
  rintro e w1 ⟨g, rfl, hr, hg, hg1⟩
  have B1 := hide (below_of_grown_none hg1 W0.heap.size (Nat.le_refl _))
  have HR := hide hr
  have lg := hr.lt
  clear c0 c1 c2 c3 c4 c5 hW0 hg1 hr FR
  obtain ⟨-, l1, c0, c1, c2, c3, c4, c5⟩ := keep.out w1 B1.out
  have s1 := B1.out.size
  have HZ := hide z0
  clear z0
  go_upto_region 4 with (fail)
  obtain ⟨W2, hW2⟩ : ∃ W2, w1.alloc (.cells #[.int .i64 4, .int .i64 0, .int .i64 0, .int .i64 0, .int .u64 0] 50) = W2 := ⟨_, rfl⟩
  rw [hW2]
  have z0 := HZ.out
  have B2 := hide (show Below W0.heap.size W0 W2 from by rw [← hW2]; exact B1.out.alloc s1 _)
  have HR2 := hide (show IsRow W2 g 11 11 (fun _ => 0) from by rw [← hW2]; exact HR.out.alloc _)
  have z2 : W2.heap.size = w1.heap.size + 1 := by rw [← hW2]; simp
  have RJ := hide (show W2.rowIs w1.heap.size 50 5 (fun i => (#[Value.int .i64 4, .int .i64 0, .int .i64 0, .int .i64 0, .int .u64 0]).getD i undef) from by rw [← hW2]; exact row_arr w1 _ _)
  have j0 : W2.cell? ⟨w1.heap.size, 0, none⟩ = some (.int .i64 4) := RJ.out.cell (i := 0) (by decide)
  have j1 : W2.cell? ⟨w1.heap.size, 1, none⟩ = some (.int .i64 0) := RJ.out.cell (i := 1) (by decide)
  have j2 : W2.cell? ⟨w1.heap.size, 2, none⟩ = some (.int .i64 0) := RJ.out.cell (i := 2) (by decide)
  have j3 : W2.cell? ⟨w1.heap.size, 3, none⟩ = some (.int .i64 0) := RJ.out.cell (i := 3) (by decide)
  have j4 : W2.cell? ⟨w1.heap.size, 4, none⟩ = some (.int .u64 0) := RJ.out.cell (i := 4) (by decide)
  have lj : w1.heap.size < W2.heap.size := by omega
  have lg2 : g < W2.heap.size := by omega
  clear z2
  clear c0 c1 c2 c3 c4 c5 l1 B1 HR
  obtain ⟨-, l1, c0, c1, c2, c3, c4, c5⟩ := keep.out W2 B2.out
  have l1a : w.heap.size < W2.heap.size + 1 := by omega
  have l1b : w.heap.size < W2.heap.size + 1 + 1 := by omega
  clear z0 s1 hg hW2
  go_wp2_with fail
  refine (E1.out W2 HR2.out lg2).mono ?_
  intro e w3 hq
  obtain ⟨hb, sa, ns, sc, g1, ba, b1, cap1, en, rfl, hen, hR1, lba, lb1, hA, hAn⟩ := ex_told (s := Exam.s1) (d := 3) hq Exam.f1 Exam.o1 rfl rfl rfl Exam.d1 (by decide)
  rw [Exam.e1] at hen
  obtain rfl : en = true := by simpa using hen
  have B23 : Below W2.heap.size W2 w3 := (((((Below.refl W2.heap.size W2).alloc (Nat.le_refl _) _).alloc (by simp) _).alloc (by simp; omega) _).alloc (by simp; omega) _).trans (hb.mono (by simp; omega))
  have x0 := (hAn 0 (by decide)).1
  have x3 := (hAn 1 (by decide)).2
  have x5 := (hAn 2 (by decide)).2
  rw [Exam.a10] at x0
  rw [Exam.a11] at x3
  rw [Exam.a12] at x5
  simp only [Nat.zero_mul, Nat.reduceMul, Nat.reduceAdd] at x0 x3 x5
  have s23 := B23.size
  have B3 := hide (B2.out.trans (B23.mono B2.out.size))
  have j0 := (B23.cell (p := ⟨w1.heap.size, 0, none⟩) lj).trans j0
  have j1 := (B23.cell (p := ⟨w1.heap.size, 1, none⟩) lj).trans j1
  have j2 := (B23.cell (p := ⟨w1.heap.size, 2, none⟩) lj).trans j2
  have j3 := (B23.cell (p := ⟨w1.heap.size, 3, none⟩) lj).trans j3
  have j4 := (B23.cell (p := ⟨w1.heap.size, 4, none⟩) lj).trans j4
  have lj3 : w1.heap.size < w3.heap.size := by omega
  have HR3 := hide hR1
  have lg3 := hR1.lt
  clear hb hq hR1 hAn hen B23 c0 c1 c2 c3 c4 c5 l1 l1a l1b lj lg2 HR2 E1 B2 RJ s23
  obtain ⟨-, l1, c0, c1, c2, c3, c4, c5⟩ := keep.out w3 B3.out
  go_upto_region 6 with (fail)
  obtain ⟨W4, hW4⟩ : ∃ W4, w3.alloc (.cells #[.slice sa ns sc, .slice (some ⟨g1, 0, none⟩) 11 11, .bool true] 32) = W4 := ⟨_, rfl⟩
  rw [hW4]
  have B34 : Below w3.heap.size w3 W4 := by rw [← hW4]; exact (Below.refl _ w3).alloc (Nat.le_refl _) _
  have RT := row_arr w3 #[.slice sa ns sc, .slice (some ⟨g1, 0, none⟩) 11 11, .bool true] 32
  rw [hW4] at RT
  have t1 : W4.cell? ⟨w3.heap.size, 1, none⟩ = some (.slice (some ⟨g1, 0, none⟩) 11 11) := RT.cell (i := 1) (by simp)
  have t2 : W4.cell? ⟨w3.heap.size, 2, none⟩ = some (.bool true) := RT.cell (i := 2) (by simp)
  have lt4 := RT.lt
  have HR4 := hide (show IsRow W4 g1 11 11 Exam.s1.f from by rw [← hW4]; exact HR3.out.alloc _)
  have B4 := hide (B3.out.trans (B34.mono B3.out.size))
  have j0 := (B34.cell (p := ⟨w1.heap.size, 0, none⟩) lj3).trans j0
  have j1 := (B34.cell (p := ⟨w1.heap.size, 1, none⟩) lj3).trans j1
  have j2 := (B34.cell (p := ⟨w1.heap.size, 2, none⟩) lj3).trans j2
  have j3 := (B34.cell (p := ⟨w1.heap.size, 3, none⟩) lj3).trans j3
  have j4 := (B34.cell (p := ⟨w1.heap.size, 4, none⟩) lj3).trans j4
  have hA := (B34.cell (p := ⟨ba, 1, none⟩) lba).trans hA
  have x0 := (B34.cell (p := ⟨b1, 0, none⟩) lb1).trans x0
  have x3 := (B34.cell (p := ⟨b1, 3, none⟩) lb1).trans x3
  have x5 := (B34.cell (p := ⟨b1, 5, none⟩) lb1).trans x5
  have lj4 : w1.heap.size < W4.heap.size := by omega
  have lj4a : w1.heap.size < W4.heap.size + 1 := by omega
  have lg4 : g1 < W4.heap.size := by omega
  have lba4 : ba < W4.heap.size := by omega
  have lb14 : b1 < W4.heap.size := by omega
  clear c0 c1 c2 c3 c4 c5 l1 hW4 RT B34 HR3 lj3 lg3 lba lb1 B3
  obtain ⟨-, l1, c0, c1, c2, c3, c4, c5⟩ := keep.out W4 B4.out
  go_wp2_with fail
  refine (E2.out W4 HR4.out lg4).mono ?_
  intro e w5 hq
  obtain ⟨hb, sa', ns', sc', g2, ba2, b2, cap2, en2, rfl, -, -, lba2, lb2, hA2, hAn2⟩ := ex_told (s := Exam.s2) (d := 1) hq Exam.f2 Exam.o2 rfl rfl rfl Exam.d2 (by decide)
  have B45 : Below W4.heap.size W4 w5 := (((((Below.refl W4.heap.size W4).alloc (Nat.le_refl _) _).alloc (by simp) _).alloc (by simp; omega) _).alloc (by simp; omega) _).trans (hb.mono (by simp; omega))
  have y0 := (hAn2 0 (by decide)).1
  have y1 := (hAn2 0 (by decide)).2
  rw [Exam.a20.1] at y0
  rw [Exam.a20.2] at y1
  simp only [Nat.zero_mul, Nat.zero_add] at y0 y1
  have s45 := B45.size
  have B5 := hide (B4.out.trans (B45.mono B4.out.size))
  have hA := (B45.cell (p := ⟨ba, 1, none⟩) lba4).trans hA
  have x0 := (B45.cell (p := ⟨b1, 0, none⟩) lb14).trans x0
  have x3 := (B45.cell (p := ⟨b1, 3, none⟩) lb14).trans x3
  have x5 := (B45.cell (p := ⟨b1, 5, none⟩) lb14).trans x5
  have t2 := (B45.cell (p := ⟨w3.heap.size, 2, none⟩) lt4).trans t2
  have lba5 : ba < w5.heap.size := by omega
  have lb15 : b1 < w5.heap.size := by omega
  have lt5 : w3.heap.size < w5.heap.size := by omega
  have BF := hide ((keep.out _ (B5.out.alloc B5.out.size (.cells #[.slice sa' ns' sc', .slice (some ⟨g2, 0, none⟩) 11 11, .bool en2] 32))).1)
  clear hb hq hAn2 B45 c0 c1 c2 c3 c4 c5 l1 j0 j1 j2 j3 j4 lj4 lj4a lg4 lba4 lb14 lt4 HR4 B4 E2 s45 keep t1 l0 lg
  go_wp2_with fail
  go_ret
  exact ⟨rfl, BF.out⟩
end Epoch
end Go.Proofs.Ytbohmahjpolapaa
