/-
  Lemmas: TallyL.
-/
import Derived.Test.YtmkkkknalldckaaTr26
import Derived.Test.YtmkkkknalldckaaTr17
/-
  The chapter's example through the tally.
-/
namespace Go.Proofs.Ytmkkkknalldckaa
open Go.RowKit
set_option linter.unusedVariables false
set_option linter.unusedSimpArgs false
set_option maxRecDepth 20000
namespace Tally

set_option maxHeartbeats 2000000 in
theorem fresh_ok (w : World) (sh : Shp) (h1 : 1 ≤ sh.f) (h2 : sh.f ≤ 64) {want : Nat} (hwant : (want : Int) = 2 * sh.f) : Calls Try.prog 13 #[sh.val] w fun e w' => ∃ g, e = .returned (.tuple #[.slice (some ⟨g, 0, none⟩) want want, .int .i64 0]) ∧ IsRow w' g want want (fun _ => 0) ∧ w.heap.size ≤ g ∧ w.grownBy w' none := by
  have SZ := hide (fun w' : World => size_ok w' sh h1 h2)
  obtain ⟨s0, s1, s2, s3, s4, s5⟩ := sh
  simp only [Shp.val] at SZ h1 h2 hwant ⊢
  rw [← hwant] at SZ
  have hmk := run_make_z (P := Try.prog) 24 36 _ 1 8 Try.underlying24 info46 want (by omega) (by omega)
  simp only [Nat.mul_one] at hmk
  have hw4 : want ≤ 128 := by omega
  clear hwant
  go_enter Try.func13, Try.ntmps13
  go_wp2_with (go_at_call 12; refine (SZ.out _).mono ?_; rintro e w1 ⟨rfl, hg1⟩; have HG := hide hg1; have sz1 := hg1.size; simp only [World.size_alloc] at sz1; clear hg1)
  go_ret2
  exact ⟨w1.heap.size, rfl, ⟨Nat.le_refl _, by unfold maxLen; omega, ⟨_, World.rowIs_made w1 (.int .u64 0) want 36, fun i hi => rfl⟩, fun i hi => ⟨Int.le_refl 0, by show (0 : Int) ≤ 18446744073709551615; decide⟩⟩, by omega, grown_alloc (grown_trans (grown_alloc (grown_refl _ _) _) HG.out) _⟩
set_option maxHeartbeats 2000000 in
theorem fresh_bad (w : World) (sh : Shp) (h : sh.f < 1 ∨ 64 < sh.f) : Calls Try.prog 13 #[sh.val] w fun e w' => e = .returned (.tuple #[.slice none 0 0, .int .i64 120]) ∧ w.grownBy w' none := by
  have SZ := hide (fun w' : World => size_bad w' sh h)
  obtain ⟨s0, s1, s2, s3, s4, s5⟩ := sh
  simp only [Shp.val] at SZ h ⊢
  go_enter Try.func13, Try.ntmps13
  go_wp2_with (go_at_call 12; refine (SZ.out _).mono ?_; rintro e w1 ⟨rfl, hg1⟩; have HG := hide hg1; clear hg1)
  go_ret2
  exact ⟨rfl, grown_trans (grown_alloc (grown_refl _ _) _) HG.out⟩

namespace Exam
def P0 : Par := { n := 4, nh := 2, jn := fun h => if h = 0 then 2 else 1, jb := fun h j => if h = 0 then (if j = 0 then ⟨1, 0, 0, 0, 5⟩ else ⟨2, 0, 0, 0, 0⟩) else ⟨1, 1, 0, 0, 7⟩, ns := 4, sched := fun i => if i = 2 then 1 else 0 }
def s0 : St (kTally 2) := st0 (kTally 2) P0 (fun _ => 0)
def s1 : St (kTally 2) := stepSt P0 s0 0
def s2 : St (kTally 2) := stepSt P0 s1 0
def s3 : St (kTally 2) := stepSt P0 s2 1
def s4 : St (kTally 2) := stepSt P0 s3 0
theorem t0 : s0.turn P0 = (0 : Nat) := by decide +kernel
theorem t1 : s1.turn P0 = (0 : Nat) := by decide +kernel
theorem t2 : s2.turn P0 = (1 : Nat) := by decide +kernel
theorem t3 : s3.turn P0 = (0 : Nat) := by decide +kernel
theorem t4 : s4.turn P0 < 0 := by decide +kernel
theorem r1 : runSt P0 s0 1 = s1 := runSt_step (m := 0) t0
theorem r2 : runSt P0 s0 2 = s2 := by have := runSt_step (P := P0) (st := s0) (m := 1) (h := 0) (by rw [r1]; exact t1); rw [this, r1]; rfl
theorem r3 : runSt P0 s0 3 = s3 := by have := runSt_step (P := P0) (st := s0) (m := 2) (h := 1) (by rw [r2]; exact t2); rw [this, r2]; rfl
theorem r4 : runSt P0 s0 4 = s4 := by have := runSt_step (P := P0) (st := s0) (m := 3) (h := 0) (by rw [r3]; exact t3); rw [this, r3]; rfl
theorem r100 : runSt P0 s0 100 = s4 := by have := runSt_stuck (P := P0) (st := s0) (m := 4) (by rw [r4]; exact t4) 96; rw [r4] at this; exact this
theorem k4 : s4.k = 4 := by decide +kernel
theorem e4 : cnt (s4.going P0) P0.nh = 0 := by decide +kernel
theorem d4 : s4.done 0 = 2 := by decide +kernel
theorem h4 : (s4.s 2).hand = 1 := by decide +kernel
theorem a4 : (s4.ans 0 1).val = 12 ∧ (s4.ans 0 1).ok = true := by decide +kernel
end Exam

theorem exam_play (v : World) : Calls Try.prog 9 #[(⟨0, 0, 0, 0, 0, 2⟩ : Shp).val, .slice (some ⟨v.heap.size, 0, none⟩) 4 4, .slice (some ⟨v.heap.size + 1 + 1 + 1, 0, none⟩) 2 2, .slice (some ⟨v.heap.size + 1 + 1 + 1 + 1, 0, none⟩) 4 4, .int .i64 100]
    (((((v.alloc (.cells #[.int .u64 0, .int .u64 0, .int .u64 0, .int .u64 0] 36)).alloc (.cells #[.int .i64 1, .int .i64 0, .int .i64 0, .int .i64 0, .int .u64 5, .int .i64 2, .int .i64 0, .int .i64 0, .int .i64 0, .int .u64 0] 41)).alloc (.cells #[.int .i64 1, .int .i64 1, .int .i64 0, .int .i64 0, .int .u64 7] 41)).alloc (.cells #[.slice (some ⟨v.heap.size + 1, 0, none⟩) 2 2, .slice (some ⟨v.heap.size + 1 + 1, 0, none⟩) 1 1] 39)).alloc (.cells #[.int .i64 0, .int .i64 0, .int .i64 1, .int .i64 0] 3)) (LAll (kTally 2) 4 (((((v.alloc (.cells #[.int .u64 0, .int .u64 0, .int .u64 0, .int .u64 0] 36)).alloc (.cells #[.int .i64 1, .int .i64 0, .int .i64 0, .int .i64 0, .int .u64 5, .int .i64 2, .int .i64 0, .int .i64 0, .int .i64 0, .int .u64 0] 41)).alloc (.cells #[.int .i64 1, .int .i64 1, .int .i64 0, .int .i64 0, .int .u64 7] 41)).alloc (.cells #[.slice (some ⟨v.heap.size + 1, 0, none⟩) 2 2, .slice (some ⟨v.heap.size + 1 + 1, 0, none⟩) 1 1] 39)).alloc (.cells #[.int .i64 0, .int .i64 0, .int .i64 1, .int .i64 0] 3)) Exam.P0 (fun _ => 0) 100) := by
  have R0 := ((((row_arr v #[.int .u64 0, .int .u64 0, .int .u64 0, .int .u64 0] 36).alloc (.cells #[.int .i64 1, .int .i64 0, .int .i64 0, .int .i64 0, .int .u64 5, .int .i64 2, .int .i64 0, .int .i64 0, .int .i64 0, .int .u64 0] 41)).alloc (.cells #[.int .i64 1, .int .i64 1, .int .i64 0, .int .i64 0, .int .u64 7] 41)).alloc (.cells #[.slice (some ⟨v.heap.size + 1, 0, none⟩) 2 2, .slice (some ⟨v.heap.size + 1 + 1, 0, none⟩) 1 1] 39)).alloc (.cells #[.int .i64 0, .int .i64 0, .int .i64 1, .int .i64 0] 3)
  have R1 := (((row_arr (v.alloc (.cells #[.int .u64 0, .int .u64 0, .int .u64 0, .int .u64 0] 36)) #[.int .i64 1, .int .i64 0, .int .i64 0, .int .i64 0, .int .u64 5, .int .i64 2, .int .i64 0, .int .i64 0, .int .i64 0, .int .u64 0] 41).alloc (.cells #[.int .i64 1, .int .i64 1, .int .i64 0, .int .i64 0, .int .u64 7] 41)).alloc (.cells #[.slice (some ⟨v.heap.size + 1, 0, none⟩) 2 2, .slice (some ⟨v.heap.size + 1 + 1, 0, none⟩) 1 1] 39)).alloc (.cells #[.int .i64 0, .int .i64 0, .int .i64 1, .int .i64 0] 3)
  have R2 := ((row_arr ((v.alloc (.cells #[.int .u64 0, .int .u64 0, .int .u64 0, .int .u64 0] 36)).alloc (.cells #[.int .i64 1, .int .i64 0, .int .i64 0, .int .i64 0, .int .u64 5, .int .i64 2, .int .i64 0, .int .i64 0, .int .i64 0, .int .u64 0] 41)) #[.int .i64 1, .int .i64 1, .int .i64 0, .int .i64 0, .int .u64 7] 41).alloc (.cells #[.slice (some ⟨v.heap.size + 1, 0, none⟩) 2 2, .slice (some ⟨v.heap.size + 1 + 1, 0, none⟩) 1 1] 39)).alloc (.cells #[.int .i64 0, .int .i64 0, .int .i64 1, .int .i64 0] 3)
  have R3 := (row_arr (((v.alloc (.cells #[.int .u64 0, .int .u64 0, .int .u64 0, .int .u64 0] 36)).alloc (.cells #[.int .i64 1, .int .i64 0, .int .i64 0, .int .i64 0, .int .u64 5, .int .i64 2, .int .i64 0, .int .i64 0, .int .i64 0, .int .u64 0] 41)).alloc (.cells #[.int .i64 1, .int .i64 1, .int .i64 0, .int .i64 0, .int .u64 7] 41)) #[.slice (some ⟨v.heap.size + 1, 0, none⟩) 2 2, .slice (some ⟨v.heap.size + 1 + 1, 0, none⟩) 1 1] 39).alloc (.cells #[.int .i64 0, .int .i64 0, .int .i64 1, .int .i64 0] 3)
  have R4 := row_arr ((((v.alloc (.cells #[.int .u64 0, .int .u64 0, .int .u64 0, .int .u64 0] 36)).alloc (.cells #[.int .i64 1, .int .i64 0, .int .i64 0, .int .i64 0, .int .u64 5, .int .i64 2, .int .i64 0, .int .i64 0, .int .i64 0, .int .u64 0] 41)).alloc (.cells #[.int .i64 1, .int .i64 1, .int .i64 0, .int .i64 0, .int .u64 7] 41)).alloc (.cells #[.slice (some ⟨v.heap.size + 1, 0, none⟩) 2 2, .slice (some ⟨v.heap.size + 1 + 1, 0, none⟩) 1 1] 39)) #[.int .i64 0, .int .i64 0, .int .i64 1, .int .i64 0] 3
  simp only [World.size_alloc] at R1 R2 R3 R4
  refine play_all (sh := ⟨0, 0, 0, 0, 0, 2⟩) (P := Exam.P0) (f := fun _ => 0) (most := 100) (want := 4) (by decide) (by decide) (by decide) ?_ (fun i _ => by constructor <;> decide) ?_ (by decide) ?_ (fun h _ j _ => ?_)
  · intro j hj
    have : j < 4 := hj
    refine ⟨v.heap.size, 0, rfl, R0.lt, ?_⟩
    match j, this with
    | 0, _ => exact R0.cell (i := 0) (by decide)
    | 1, _ => exact R0.cell (i := 1) (by decide)
    | 2, _ => exact R0.cell (i := 2) (by decide)
    | 3, _ => exact R0.cell (i := 3) (by decide)
  · intro h hh
    have : h < 2 := hh
    match h, this with
    | 0, _ =>
      refine ⟨v.heap.size + 1 + 1 + 1, 0, some ⟨v.heap.size + 1, 0, none⟩, 2, rfl, R3.lt, R3.cell (i := 0) (by simp), ?_⟩
      intro i hi
      refine ⟨v.heap.size + 1, 0, rfl, R1.lt, fun q hq => ?_⟩
      have : i < 2 := hi
      match i, this, q, hq with
      | 0, _, 0, _ => exact R1.cell (i := 0) (by decide)
      | 0, _, 1, _ => exact R1.cell (i := 1) (by decide)
      | 0, _, 2, _ => exact R1.cell (i := 2) (by decide)
      | 0, _, 3, _ => exact R1.cell (i := 3) (by decide)
      | 0, _, 4, _ => exact R1.cell (i := 4) (by decide)
      | 1, _, 0, _ => exact R1.cell (i := 5) (by decide)
      | 1, _, 1, _ => exact R1.cell (i := 6) (by decide)
      | 1, _, 2, _ => exact R1.cell (i := 7) (by decide)
      | 1, _, 3, _ => exact R1.cell (i := 8) (by decide)
      | 1, _, 4, _ => exact R1.cell (i := 9) (by decide)
    | 1, _ =>
      refine ⟨v.heap.size + 1 + 1 + 1, 0, some ⟨v.heap.size + 1 + 1, 0, none⟩, 1, rfl, R3.lt, R3.cell (i := 1) (by simp), ?_⟩
      intro i hi
      refine ⟨v.heap.size + 1 + 1, 0, rfl, R2.lt, fun q hq => ?_⟩
      have : i < 1 := hi
      match i, this, q, hq with
      | 0, _, 0, _ => exact R2.cell (i := 0) (by decide)
      | 0, _, 1, _ => exact R2.cell (i := 1) (by decide)
      | 0, _, 2, _ => exact R2.cell (i := 2) (by decide)
      | 0, _, 3, _ => exact R2.cell (i := 3) (by decide)
      | 0, _, 4, _ => exact R2.cell (i := 4) (by decide)
  · intro j hj
    refine ⟨v.heap.size + 1 + 1 + 1 + 1, 0, rfl, R4.lt, ?_⟩
    have : j < 4 := hj
    match j, this with
    | 0, _ => exact R4.cell (i := 0) (by decide)
    | 1, _ => exact R4.cell (i := 1) (by decide)
    | 2, _ => exact R4.cell (i := 2) (by decide)
    | 3, _ => exact R4.cell (i := 3) (by decide)
  · simp only [Exam.P0, Jb.wf]
    split
    · split <;> decide
    · decide

set_option maxHeartbeats 4000000 in
theorem alive_any (w : World) : Calls Try.prog 5 #[] w fun e w' => e = .returned (.bool true) ∧ Below w.heap.size w w' := by
  have SZ := hide (fun w' : World => size_ok w' ⟨0, 0, 0, 0, 0, 2⟩ (by decide) (by decide))
  have FR := hide (fun w' : World => fresh_ok w' ⟨0, 0, 0, 0, 0, 2⟩ (by decide) (by decide) (want := 4) (by decide))
  have SB := hide (fun w' : World => size_bad w' ⟨0, 0, 0, 0, 0, 0⟩ (.inl (by decide)))
  have EX := hide exam_play
  simp only [Shp.val] at SZ FR SB EX
  obtain ⟨W0, hW0⟩ : ∃ W0, w.alloc (.cells #[.int .i64 0, .int .i64 0, .int .i64 0, .int .i64 0, .int .i64 0, .int .i64 2] 23) = W0 := ⟨_, rfl⟩
  have b0 : Below w.heap.size w W0 := by rw [← hW0]; exact (Below.refl _ w).alloc (Nat.le_refl _) _
  have R0 : W0.rowIs w.heap.size 23 6 (fun i => (#[Value.int .i64 0, .int .i64 0, .int .i64 0, .int .i64 0, .int .i64 0, .int .i64 2]).getD i undef) := by rw [← hW0]; exact row_arr w _ _
  have keep : Hid (∀ w' : World, Below W0.heap.size W0 w' → Below w.heap.size w w' ∧ w.heap.size < w'.heap.size ∧ w'.cell? ⟨w.heap.size, 0, none⟩ = some (.int .i64 0) ∧ w'.cell? ⟨w.heap.size, 1, none⟩ = some (.int .i64 0) ∧ w'.cell? ⟨w.heap.size, 2, none⟩ = some (.int .i64 0) ∧ w'.cell? ⟨w.heap.size, 3, none⟩ = some (.int .i64 0) ∧ w'.cell? ⟨w.heap.size, 4, none⟩ = some (.int .i64 0) ∧ w'.cell? ⟨w.heap.size, 5, none⟩ = some (.int .i64 2)) := fun w' hb => by
    have r := R0.of_block (hb.block w.heap.size R0.lt)
    exact ⟨b0.trans (hb.mono b0.size), r.lt, r.cell (i := 0) (by decide), r.cell (i := 1) (by decide), r.cell (i := 2) (by decide), r.cell (i := 3) (by decide), r.cell (i := 4) (by decide), r.cell (i := 5) (by decide)⟩
  obtain ⟨_, l0, c0, c1, c2, c3, c4, c5⟩ := keep.out W0 (Below.refl _ _)
  clear b0 R0
  go_enter Try.func5, Try.ntmps5
  go_wp2_with fail
  refine (SZ.out _).mono ?_
  rintro e w1 ⟨rfl, hg1⟩
  have B1 := hide (below_of_grown_none hg1 W0.heap.size (Nat.le_refl _))
  clear hg1 c0 c1 c2 c3 c4 c5
  obtain ⟨_, l1, c0, c1, c2, c3, c4, c5⟩ := keep.out w1 B1.out
  go_wp2_with fail
  refine (FR.out _).mono ?_
  rintro e w2 ⟨g, rfl, hr2, hg2, hgr⟩
  have B2 := hide (B1.out.trans (below_of_grown_none hgr W0.heap.size B1.out.size))
  clear hgr hr2 c0 c1 c2 c3 c4 c5
  obtain ⟨bw2, l2, c0, c1, c2, c3, c4, c5⟩ := keep.out w2 B2.out
  have HB2 := hide bw2
  clear bw2
  go_wp2_with fail
  refine (EX.out w2).mono ?_
  rintro e w3 ⟨hb, hcase⟩
  have BX : Below w2.heap.size w2 (((((w2.alloc (.cells #[.int .u64 0, .int .u64 0, .int .u64 0, .int .u64 0] 36)).alloc (.cells #[.int .i64 1, .int .i64 0, .int .i64 0, .int .i64 0, .int .u64 5, .int .i64 2, .int .i64 0, .int .i64 0, .int .i64 0, .int .u64 0] 41)).alloc (.cells #[.int .i64 1, .int .i64 1, .int .i64 0, .int .i64 0, .int .u64 7] 41)).alloc (.cells #[.slice (some ⟨w2.heap.size + 1, 0, none⟩) 2 2, .slice (some ⟨w2.heap.size + 1 + 1, 0, none⟩) 1 1] 39)).alloc (.cells #[.int .i64 0, .int .i64 0, .int .i64 1, .int .i64 0] 3)) := (((((Below.refl w2.heap.size w2).alloc (Nat.le_refl _) _).alloc (by simp) _).alloc (by simp; omega) _).alloc (by simp; omega) _).alloc (by simp; omega) _
  have BB := hide (HB2.out.trans ((BX.trans (hb.mono (by simp; omega))).mono (by omega)))
  clear hb BX c0 c1 c2 c3 c4 c5
  rcases hcase with ⟨er, hle, rfl⟩ | ⟨_, hF, hok, v, rfl, blk, c, g', sv, rfl, H, G, GS, R, hg, hne⟩
  · refine absurd ⟨?_, ?_⟩ (show ¬ (Fine Exam.P0 100 ∧ AllOk (kTally 2) Exam.P0) from by rcases hle with ⟨h, _⟩ | ⟨_, h⟩; exact absurd rfl h; exact h.not)
    · refine ⟨by decide, ?_, by decide, by decide, by decide⟩
      rintro (h | ⟨h, _, h2⟩)
      · exact absurd h (by decide)
      · simp only [Exam.P0] at h2; split at h2 <;> omega
    · intro h hh j hj
      have : h < 2 := hh
      match h, this with
      | 0, _ =>
        have : j < 2 := hj
        match j, this with
        | 0, _ => decide
        | 1, _ => decide
      | 1, _ =>
        have : j < 1 := hj
        match j, this with
        | 0, _ => decide
  · have hst : runSt Exam.P0 (st0 (kTally 2) Exam.P0 (fun _ => 0)) (Int.toNat 100) = Exam.s4 := Exam.r100
    rw [hst] at G GS R ⊢
    rw [Exam.e4]
    obtain ⟨b, cap, rfl, hbl, _, hcs⟩ := grows_cell GS H (stepCells_length _ _) (by rw [Exam.k4]; decide)
    have q2 := hcs _ _ (stepCells_get Exam.s4.s Exam.s4.k 2 0 (by rw [Exam.k4]; decide) (by decide))
    simp only [Stp.cell, Exam.h4] at q2
    obtain ⟨A, eA, hA⟩ := G.answers
    have a0 := hA 0 (by decide)
    rw [Exam.d4] at a0
    obtain ⟨b', cap', eA0, hbl', _, hcs'⟩ := grows_cell a0 H (ansCells_length _ _) (by decide)
    have ac := hcs' _ _ (ansCells_get (Exam.s4.ans 0) 2 1 1 (by decide) (by decide))
    have ak := hcs' _ _ (ansCells_get (Exam.s4.ans 0) 2 1 0 (by decide) (by decide))
    simp only [Ans.cell, Exam.a4.1, Exam.a4.2] at ac ak
    have ah := H.cell eA (i := 0) (show 0 < 2 by decide)
    simp only [eA0] at ah
    have la := H.lt eA
    rw [Exam.k4]
    have n1 : Exam.P0.n = 4 := rfl
    have n2 : Exam.P0.nh = 2 := rfl
    rw [n1, n2]
    obtain ⟨ba, hba⟩ : ∃ ba, blk .answers = ba := ⟨_, rfl⟩
    rw [hba] at ah la ⊢
    clear H G GS R hne hcs hcs' hA a0 hok hst hF
    obtain ⟨W5, hW5⟩ : ∃ W5, w3.alloc (.cells #[.slice (some ⟨b, 0, none⟩) 4 cap, .slice (some ⟨g', 0, none⟩) 4 4, .bool (decide (0 = 0))] 32) = W5 := ⟨_, rfl⟩
    have B5 : Below w3.heap.size w3 W5 := by rw [← hW5]; exact (Below.refl _ w3).alloc (Nat.le_refl _) _
    have R5 : W5.rowIs w3.heap.size 32 3 (fun i => (#[Value.slice (some ⟨b, 0, none⟩) 4 cap, .slice (some ⟨g', 0, none⟩) 4 4, .bool (decide (0 = 0))]).getD i undef) := by rw [← hW5]; exact row_arr w3 _ _
    have HR5 := hide R5
    have HB5 := hide B5
    clear B5 R5
    simp only [decide_true] at hW5 HR5 ⊢
    go_wp2_with fail
    refine (SB.out _).mono ?_
    rintro e w6 ⟨rfl, hg6⟩
    have B6 := HB5.out.trans ((below_of_grown_none hg6 w3.heap.size HB5.out.size))
    have R6 := HR5.out.of_block ((below_of_grown_none hg6 W5.heap.size (Nat.le_refl _)).block w3.heap.size HR5.out.lt)
    have p0 : w6.cell? ⟨w3.heap.size, 0, none⟩ = some (.slice (some ⟨b, 0, none⟩) 4 cap) := R6.cell (i := 0) (by decide)
    have p2 : w6.cell? ⟨w3.heap.size, 2, none⟩ = some (.bool true) := R6.cell (i := 2) (by decide)
    have l6 := R6.lt
    replace q2 := (B6.cell (p := ⟨b, 2 * 6 + 0, none⟩) hbl).trans q2
    replace ac := (B6.cell (p := ⟨b', 1 * 2 + 1, none⟩) hbl').trans ac
    replace ak := (B6.cell (p := ⟨b', 1 * 2 + 0, none⟩) hbl').trans ak
    replace ah := (B6.cell (p := ⟨ba, 0, none⟩) la).trans ah
    simp only [Nat.reduceMul, Nat.reduceAdd] at q2 ac ak
    have FIN := hide (BB.out.trans (B6.mono BB.out.size))
    clear B6 R6 hg6 hW5 hbl hbl' la
    have lb := World.block_lt_of_cell? _ _ q2
    have lb' := World.block_lt_of_cell? _ _ ac
    have lba := World.block_lt_of_cell? _ _ ah
    simp only at lb lb' lba
    go_wp2_with fail
    go_ret
    exact ⟨rfl, FIN.out⟩
end Tally
end Go.Proofs.Ytmkkkknalldckaa
