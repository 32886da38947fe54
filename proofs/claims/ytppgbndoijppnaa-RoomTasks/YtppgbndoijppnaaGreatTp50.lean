/-
  Lemmas: RoomL.
-/
import Derived.Test.YtppgbndoijppnaaGreatTp49
import Derived.Test.YtppgbndoijppnaaGreatTp48
import Derived.Deep.CutRange
import Derived.Deep.CutBlock
namespace Go.Proofs.YtppgbndoijppnaaGreat
set_option maxHeartbeats 8000000
open Go.RowKit
set_option linter.unusedVariables false
set_option linter.unusedSimpArgs false
set_option maxRecDepth 20000
section
namespace Rom
open Hp
def f0 : Nat → Int := Shape.F ⟨2, 1, 1, 1, 0⟩ 1
theorem h5e : Shape.R5 2 1 1 1 0 := by unfold Shape.R5; decide
namespace Exam
def P1 : Par := { n := 18, nh := 1, jn := fun _ => 5, jb := fun _ j => if j = 0 then ⟨1, 0, 0, 0, 0⟩ else if j = 1 then ⟨1, 0, 1, 0, 0⟩ else if j = 2 then ⟨1, 0, 0, 0, 0⟩ else if j = 3 then ⟨2, 1, 0, 0, 0⟩ else ⟨1, 0, 0, 0, 0⟩, ns := 0, sched := fun _ => 0 }
theorem f1 : Fine P1 100 := ⟨by decide, by rintro (h | ⟨h, hh, h2⟩); exact absurd h (by decide); have h3 : 256 < 5 := h2; omega, by decide, by decide, by decide⟩
def P2 : Par := { n := 18, nh := 1, jn := fun _ => 1, jb := fun _ j => ⟨3, 0, 0, 0, 0⟩, ns := 0, sched := fun _ => 0 }
theorem f2 : Fine P2 100 := ⟨by decide, by rintro (h | ⟨h, hh, h2⟩); exact absurd h (by decide); have h3 : 256 < 1 := h2; omega, by decide, by decide, by decide⟩
def P3 : Par := { n := 18, nh := 1, jn := fun _ => 1, jb := fun _ j => ⟨2, 0, 0, 0, 0⟩, ns := 0, sched := fun _ => 0 }
theorem f3 : Fine P3 100 := ⟨by decide, by rintro (h | ⟨h, hh, h2⟩); exact absurd h (by decide); have h3 : 256 < 1 := h2; omega, by decide, by decide, by decide⟩
def s1 : St (kRom false ⟨2, 1, 1, 1, 0, 0⟩) := runSt P1 (st0 (kRom false ⟨2, 1, 1, 1, 0, 0⟩) P1 f0) 100
theorem e1 : Go.Proofs.YtppgbndoijppnaaGreat.cnt (s1.going P1) P1.nh = 0 := by decide +kernel
theorem d1 : s1.done 0 = 5 := by decide +kernel
theorem a0 : (s1.ans 0 0).val = 1 := by decide +kernel
theorem a1 : (s1.ans 0 1).val = 2 := by decide +kernel
theorem a2 : (s1.ans 0 2).ok = false := by decide +kernel
theorem a3 : (s1.ans 0 3).ok = true ∧ (s1.ans 0 3).val = 1 := by decide +kernel
theorem a4 : (s1.ans 0 4).ok = true ∧ (s1.ans 0 4).val = 4294967297 := by decide +kernel
theorem o1 : AllOk (kRom false ⟨2, 1, 1, 1, 0, 0⟩) P1 := by
 intro h hh j hj
 have : h < 1 := hh
 match h, this with
 | 0, _ =>
  have : j < 5 := hj
  match j, this with
  | 0, _ | 1, _ | 2, _ | 3, _ | 4, _ => decide
theorem r2 : rerr false ⟨2, 1, 1, 1, 0, 0⟩ 0 ⟨3, 0, 0, 0, 0⟩ = 200 := by decide
theorem r3 : rerr false ⟨2, 1, 1, 1, 0, 0⟩ 0 ⟨2, 0, 0, 0, 0⟩ = 2 := by decide
end Exam
theorem exam_play1 (v : World) {g : Nat} (R : IsRow v g 18 18 f0) (hg : g < v.heap.size) : Calls Tryz.prog 9 #[(⟨2, 1, 1, 1, 0, 0⟩ : Shp).val, .slice (some ⟨g, 0, none⟩) 18 18, .slice (some ⟨v.heap.size + 1, 0, none⟩) 1 1, .slice none 0 0, .int .i64 100]
  ((v.alloc (.cells #[.int .i64 1, .int .i64 0, .int .i64 0, .int .i64 0, .int .u64 0, .int .i64 1, .int .i64 0, .int .i64 1, .int .i64 0, .int .u64 0, .int .i64 1, .int .i64 0, .int .i64 0, .int .i64 0, .int .u64 0, .int .i64 2, .int .i64 1, .int .i64 0, .int .i64 0, .int .u64 0, .int .i64 1, .int .i64 0, .int .i64 0, .int .i64 0, .int .u64 0] 52)).alloc (.cells #[.slice (some ⟨v.heap.size, 0, none⟩) 5 5] 71)) (LAll (kRom false ⟨2, 1, 1, 1, 0, 0⟩) 18 ((v.alloc (.cells #[.int .i64 1, .int .i64 0, .int .i64 0, .int .i64 0, .int .u64 0, .int .i64 1, .int .i64 0, .int .i64 1, .int .i64 0, .int .u64 0, .int .i64 1, .int .i64 0, .int .i64 0, .int .i64 0, .int .u64 0, .int .i64 2, .int .i64 1, .int .i64 0, .int .i64 0, .int .u64 0, .int .i64 1, .int .i64 0, .int .i64 0, .int .i64 0, .int .u64 0] 52)).alloc (.cells #[.slice (some ⟨v.heap.size, 0, none⟩) 5 5] 71)) Exam.P1 f0 100) := by
 have R1 := (row_arr v #[.int .i64 1, .int .i64 0, .int .i64 0, .int .i64 0, .int .u64 0, .int .i64 1, .int .i64 0, .int .i64 1, .int .i64 0, .int .u64 0, .int .i64 1, .int .i64 0, .int .i64 0, .int .i64 0, .int .u64 0, .int .i64 2, .int .i64 1, .int .i64 0, .int .i64 0, .int .u64 0, .int .i64 1, .int .i64 0, .int .i64 0, .int .i64 0, .int .u64 0] 52).alloc (.cells #[.slice (some ⟨v.heap.size, 0, none⟩) 5 5] 71)
 have R2 := row_arr (v.alloc (.cells #[.int .i64 1, .int .i64 0, .int .i64 0, .int .i64 0, .int .u64 0, .int .i64 1, .int .i64 0, .int .i64 1, .int .i64 0, .int .u64 0, .int .i64 1, .int .i64 0, .int .i64 0, .int .i64 0, .int .u64 0, .int .i64 2, .int .i64 1, .int .i64 0, .int .i64 0, .int .u64 0, .int .i64 1, .int .i64 0, .int .i64 0, .int .i64 0, .int .u64 0] 52)) #[.slice (some ⟨v.heap.size, 0, none⟩) 5 5] 71
 have B0 : Below v.heap.size v ((v.alloc (.cells #[.int .i64 1, .int .i64 0, .int .i64 0, .int .i64 0, .int .u64 0, .int .i64 1, .int .i64 0, .int .i64 1, .int .i64 0, .int .u64 0, .int .i64 1, .int .i64 0, .int .i64 0, .int .i64 0, .int .u64 0, .int .i64 2, .int .i64 1, .int .i64 0, .int .i64 0, .int .u64 0, .int .i64 1, .int .i64 0, .int .i64 0, .int .i64 0, .int .u64 0] 52)).alloc (.cells #[.slice (some ⟨v.heap.size, 0, none⟩) 5 5] 71)) := ((Below.refl _ v).alloc (Nat.le_refl _) _).alloc (by simp) _
 simp only [World.size_alloc] at R2
 refine play_all (sh := ⟨2, 1, 1, 1, 0, 0⟩) (P := Exam.P1) (f := f0) (most := 100) (want := 18) h5e (by decide) ?_ (fun i hi => R.2.2.2 i hi) ?_ (by decide) ?_ (fun h _ j _ => ?_)
 ·intro j hj
  exact ⟨g, 0, rfl, by simp; omega, by rw [Nat.zero_add]; exact (B0.cell (p := ⟨g, j, none⟩) hg).trans (R.cell hj)⟩
 ·intro h hh
  have : h < 1 := hh
  match h, this with
  | 0, _ =>
   refine ⟨v.heap.size + 1, 0, some ⟨v.heap.size, 0, none⟩, 5, rfl, R2.lt, R2.cell (i := 0) (by simp), ?_⟩
   intro i hi
   refine ⟨v.heap.size, 0, rfl, R1.lt, fun q hq => ?_⟩
   have : i < 5 := hi
   match i, this, q, hq with
   | 0, _, 0, _ => exact R1.cell (i := 0) (by decide)
   | 0, _, 1, _ => exact R1.cell (i := 1) (by decide)
   | 0, _, 2, _ => exact R1.cell (i := 2) (by decide)
   | 0, _, 3, _ => exact R1.cell (i := 3) (by decide)
   | 0, _, 4, _ => exact R1.cell (i := 4) (by decide)
   | 1, _, 0, _ => exact R1.cell (i := 5) (by decide)
   | 1, _, 1, _ => exact R1.cell (i := 6) (by decide)
   | 1, _, 2, _ => exact R1.cell (i := 7) (by decide)
   | 1, _, 3, _ => exact R1.cell (i := 8) (by decide)
   | 1, _, 4, _ => exact R1.cell (i := 9) (by decide)
   | 2, _, 0, _ => exact R1.cell (i := 10) (by decide)
   | 2, _, 1, _ => exact R1.cell (i := 11) (by decide)
   | 2, _, 2, _ => exact R1.cell (i := 12) (by decide)
   | 2, _, 3, _ => exact R1.cell (i := 13) (by decide)
   | 2, _, 4, _ => exact R1.cell (i := 14) (by decide)
   | 3, _, 0, _ => exact R1.cell (i := 15) (by decide)
   | 3, _, 1, _ => exact R1.cell (i := 16) (by decide)
   | 3, _, 2, _ => exact R1.cell (i := 17) (by decide)
   | 3, _, 3, _ => exact R1.cell (i := 18) (by decide)
   | 3, _, 4, _ => exact R1.cell (i := 19) (by decide)
   | 4, _, 0, _ => exact R1.cell (i := 20) (by decide)
   | 4, _, 1, _ => exact R1.cell (i := 21) (by decide)
   | 4, _, 2, _ => exact R1.cell (i := 22) (by decide)
   | 4, _, 3, _ => exact R1.cell (i := 23) (by decide)
   | 4, _, 4, _ => exact R1.cell (i := 24) (by decide)
 ·intro j hj
  exact absurd hj (Nat.not_lt_zero _)
 ·show (Exam.P1.jb h j).wf
  unfold Exam.P1 Jb.wf
  simp only
  repeat' split
  all_goals exact ⟨by simp, by simp⟩
theorem exam_play2 (v : World) {g : Nat} (R : IsRow v g 18 18 f0) (hg : g < v.heap.size) : Calls Tryz.prog 9 #[(⟨2, 1, 1, 1, 0, 0⟩ : Shp).val, .slice (some ⟨g, 0, none⟩) 18 18, .slice (some ⟨v.heap.size + 1, 0, none⟩) 1 1, .slice none 0 0, .int .i64 100]
  ((v.alloc (.cells #[.int .i64 3, .int .i64 0, .int .i64 0, .int .i64 0, .int .u64 0] 52)).alloc (.cells #[.slice (some ⟨v.heap.size, 0, none⟩) 1 1] 71)) (LAll (kRom false ⟨2, 1, 1, 1, 0, 0⟩) 18 ((v.alloc (.cells #[.int .i64 3, .int .i64 0, .int .i64 0, .int .i64 0, .int .u64 0] 52)).alloc (.cells #[.slice (some ⟨v.heap.size, 0, none⟩) 1 1] 71)) Exam.P2 f0 100) := by
 have R1 := (row_arr v #[.int .i64 3, .int .i64 0, .int .i64 0, .int .i64 0, .int .u64 0] 52).alloc (.cells #[.slice (some ⟨v.heap.size, 0, none⟩) 1 1] 71)
 have R2 := row_arr (v.alloc (.cells #[.int .i64 3, .int .i64 0, .int .i64 0, .int .i64 0, .int .u64 0] 52)) #[.slice (some ⟨v.heap.size, 0, none⟩) 1 1] 71
 have B0 : Below v.heap.size v ((v.alloc (.cells #[.int .i64 3, .int .i64 0, .int .i64 0, .int .i64 0, .int .u64 0] 52)).alloc (.cells #[.slice (some ⟨v.heap.size, 0, none⟩) 1 1] 71)) := ((Below.refl _ v).alloc (Nat.le_refl _) _).alloc (by simp) _
 simp only [World.size_alloc] at R2
 refine play_all (sh := ⟨2, 1, 1, 1, 0, 0⟩) (P := Exam.P2) (f := f0) (most := 100) (want := 18) h5e (by decide) ?_ (fun i hi => R.2.2.2 i hi) ?_ (by decide) ?_ (fun h _ j _ => ?_)
 ·intro j hj
  exact ⟨g, 0, rfl, by simp; omega, by rw [Nat.zero_add]; exact (B0.cell (p := ⟨g, j, none⟩) hg).trans (R.cell hj)⟩
 ·intro h hh
  have : h < 1 := hh
  match h, this with
  | 0, _ =>
   refine ⟨v.heap.size + 1, 0, some ⟨v.heap.size, 0, none⟩, 1, rfl, R2.lt, R2.cell (i := 0) (by simp), ?_⟩
   intro i hi
   refine ⟨v.heap.size, 0, rfl, R1.lt, fun q hq => ?_⟩
   have : i < 1 := hi
   match i, this, q, hq with
   | 0, _, 0, _ => exact R1.cell (i := 0) (by decide)
   | 0, _, 1, _ => exact R1.cell (i := 1) (by decide)
   | 0, _, 2, _ => exact R1.cell (i := 2) (by decide)
   | 0, _, 3, _ => exact R1.cell (i := 3) (by decide)
   | 0, _, 4, _ => exact R1.cell (i := 4) (by decide)
 ·intro j hj
  exact absurd hj (Nat.not_lt_zero _)
 ·show (Exam.P2.jb h j).wf
  unfold Exam.P2 Jb.wf
  simp only
  repeat' split
  all_goals exact ⟨by simp, by simp⟩
theorem exam_play3 (v : World) {g : Nat} (R : IsRow v g 18 18 f0) (hg : g < v.heap.size) : Calls Tryz.prog 9 #[(⟨2, 1, 1, 1, 0, 0⟩ : Shp).val, .slice (some ⟨g, 0, none⟩) 18 18, .slice (some ⟨v.heap.size + 1, 0, none⟩) 1 1, .slice none 0 0, .int .i64 100]
  ((v.alloc (.cells #[.int .i64 2, .int .i64 0, .int .i64 0, .int .i64 0, .int .u64 0] 52)).alloc (.cells #[.slice (some ⟨v.heap.size, 0, none⟩) 1 1] 71)) (LAll (kRom false ⟨2, 1, 1, 1, 0, 0⟩) 18 ((v.alloc (.cells #[.int .i64 2, .int .i64 0, .int .i64 0, .int .i64 0, .int .u64 0] 52)).alloc (.cells #[.slice (some ⟨v.heap.size, 0, none⟩) 1 1] 71)) Exam.P3 f0 100) := by
 have R1 := (row_arr v #[.int .i64 2, .int .i64 0, .int .i64 0, .int .i64 0, .int .u64 0] 52).alloc (.cells #[.slice (some ⟨v.heap.size, 0, none⟩) 1 1] 71)
 have R2 := row_arr (v.alloc (.cells #[.int .i64 2, .int .i64 0, .int .i64 0, .int .i64 0, .int .u64 0] 52)) #[.slice (some ⟨v.heap.size, 0, none⟩) 1 1] 71
 have B0 : Below v.heap.size v ((v.alloc (.cells #[.int .i64 2, .int .i64 0, .int .i64 0, .int .i64 0, .int .u64 0] 52)).alloc (.cells #[.slice (some ⟨v.heap.size, 0, none⟩) 1 1] 71)) := ((Below.refl _ v).alloc (Nat.le_refl _) _).alloc (by simp) _
 simp only [World.size_alloc] at R2
 refine play_all (sh := ⟨2, 1, 1, 1, 0, 0⟩) (P := Exam.P3) (f := f0) (most := 100) (want := 18) h5e (by decide) ?_ (fun i hi => R.2.2.2 i hi) ?_ (by decide) ?_ (fun h _ j _ => ?_)
 ·intro j hj
  exact ⟨g, 0, rfl, by simp; omega, by rw [Nat.zero_add]; exact (B0.cell (p := ⟨g, j, none⟩) hg).trans (R.cell hj)⟩
 ·intro h hh
  have : h < 1 := hh
  match h, this with
  | 0, _ =>
   refine ⟨v.heap.size + 1, 0, some ⟨v.heap.size, 0, none⟩, 1, rfl, R2.lt, R2.cell (i := 0) (by simp), ?_⟩
   intro i hi
   refine ⟨v.heap.size, 0, rfl, R1.lt, fun q hq => ?_⟩
   have : i < 1 := hi
   match i, this, q, hq with
   | 0, _, 0, _ => exact R1.cell (i := 0) (by decide)
   | 0, _, 1, _ => exact R1.cell (i := 1) (by decide)
   | 0, _, 2, _ => exact R1.cell (i := 2) (by decide)
   | 0, _, 3, _ => exact R1.cell (i := 3) (by decide)
   | 0, _, 4, _ => exact R1.cell (i := 4) (by decide)
 ·intro j hj
  exact absurd hj (Nat.not_lt_zero _)
 ·show (Exam.P3.jb h j).wf
  unfold Exam.P3 Jb.wf
  simp only
  repeat' split
  all_goals exact ⟨by simp, by simp⟩
theorem exam_err2 {w w' : World} {e : Ending} (h : LAll (kRom false ⟨2, 1, 1, 1, 0, 0⟩) 18 w Exam.P2 f0 100 e w') : e = .returned (errVal 200) ∧ Below w.heap.size w w' := by
 obtain ⟨hb, hcase⟩ := h
 rcases hcase with ⟨er, hle, rfl⟩ | ⟨_, _, hok, _⟩
 ·rcases hle with ⟨h, _⟩ | ⟨_, h⟩
  ·exact absurd rfl h
  ·have h' : ErrOf (kRom false ⟨2, 1, 1, 1, 0, 0⟩) Exam.P2 100 200 := .inr (.inr (.inr ⟨Exam.f2, 0, 0, by decide, by decide, Exam.r2, by decide, fun h hh => absurd hh (Nat.not_lt_zero _), fun j hj => absurd hj (Nat.not_lt_zero _)⟩))
   rw [h.one h']
   exact ⟨rfl, hb⟩
 ·have := hok 0 (by decide) 0 (by decide)
  exact absurd this (by decide)
theorem exam_err3 {w w' : World} {e : Ending} (h : LAll (kRom false ⟨2, 1, 1, 1, 0, 0⟩) 18 w Exam.P3 f0 100 e w') : e = .returned (errVal 2) ∧ Below w.heap.size w w' := by
 obtain ⟨hb, hcase⟩ := h
 rcases hcase with ⟨er, hle, rfl⟩ | ⟨_, _, hok, _⟩
 ·rcases hle with ⟨h, _⟩ | ⟨_, h⟩
  ·exact absurd rfl h
  ·have h' : ErrOf (kRom false ⟨2, 1, 1, 1, 0, 0⟩) Exam.P3 100 2 := .inr (.inr (.inr ⟨Exam.f3, 0, 0, by decide, by decide, Exam.r3, by decide, fun h hh => absurd hh (Nat.not_lt_zero _), fun j hj => absurd hj (Nat.not_lt_zero _)⟩))
   rw [h.one h']
   exact ⟨rfl, hb⟩
 ·have := hok 0 (by decide) 0 (by decide)
  exact absurd this (by decide)
theorem ex_told {w w' : World} {e : Ending} (h : LAll (kRom false ⟨2, 1, 1, 1, 0, 0⟩) 18 w Exam.P1 f0 100 e w') :
  Below w.heap.size w w' ∧ ∃ sa ns sc g ba b1 cap, e = .returned (.tuple #[.agg #[.slice sa ns sc, .slice (some ⟨g, 0, none⟩) 18 18, .bool true], .slice (some ⟨ba, 0, none⟩) 1 1, .int .i64 0]) ∧ ba < w'.heap.size ∧ b1 < w'.heap.size ∧
   w'.cell? ⟨ba, 0, none⟩ = some (.slice (some ⟨b1, 0, none⟩) 5 cap) ∧ ∀ j, j < 5 → w'.cell? ⟨b1, j * 2, none⟩ = some (.bool (Exam.s1.ans 0 j).ok) ∧ w'.cell? ⟨b1, j * 2 + 1, none⟩ = some (.int .u64 (Exam.s1.ans 0 j).val) := by
 obtain ⟨hb, hcase⟩ := h
 rcases hcase with ⟨er, hle, rfl⟩ | ⟨_, _, _, v, rfl, blk, c, g', sv, rfl, H, G, GS, R, hg, hne⟩
 ·exact absurd ⟨Exam.f1, Exam.o1⟩ (show ¬ (Fine Exam.P1 100 ∧ AllOk (kRom false ⟨2, 1, 1, 1, 0, 0⟩) Exam.P1) from by rcases hle with ⟨h, _⟩ | ⟨_, h⟩; exact absurd rfl h; exact h.not)
 ·have hs' : runSt Exam.P1 (st0 (kRom false ⟨2, 1, 1, 1, 0, 0⟩) Exam.P1 f0) (Int.toNat 100) = Exam.s1 := rfl
  rw [hs'] at G GS R ⊢
  obtain ⟨sa, sc, rfl⟩ := GS.isSlice
  obtain ⟨A, eA, hA⟩ := G.answers
  have a1 := hA 0 (by decide)
  rw [Exam.d1] at a1
  obtain ⟨b1, cap1, eA1, hbl1, _, hcs1⟩ := grows_cell a1 H (ansCells_length _ _) (by decide)
  have ah1 := H.cell eA (i := 0) (show 0 < 1 by decide)
  simp only [eA1] at ah1
  refine ⟨hb, sa, Exam.s1.k, sc, g', blk .answers, b1, cap1, ?_, H.lt eA, hbl1, ah1, fun j hj => ⟨?_, ?_⟩⟩
  ·rw [show decide (Go.Proofs.YtppgbndoijppnaaGreat.cnt (Exam.s1.going Exam.P1) Exam.P1.nh = 0) = true from by rw [Exam.e1]; rfl]
   rfl
  ·have := hcs1 _ _ (ansCells_get (Exam.s1.ans 0) 5 j 0 hj (by decide))
   simpa [Ans.cell] using this
  ·have := hcs1 _ _ (ansCells_get (Exam.s1.ans 0) 5 j 1 hj (by decide))
   simpa [Ans.cell] using this
theorem fresh_two (w : World) : Calls Tryz.prog 22 #[.agg #[.int .i64 2, .int .i64 1, .int .i64 1, .int .i64 1, .int .i64 0, .int .i64 0]] w fun e w' => ∃ g, e = .returned (.tuple #[.slice (some ⟨g, 0, none⟩) 18 18, .int .i64 0]) ∧ IsRow w' g 18 18 f0 ∧ w.heap.size ≤ g ∧ Below w.heap.size w w' := by
 have H : (⟨2, 1, 1, 1, 0⟩ : Shape.Sh).Ok := by constructor <;> decide
 exact Shape.fresh_ok (o := 2) (s := 1) (h := 1) (r := 1) (k := 0) (s5 := 0) H w
theorem alive_any (w : World) : Calls Tryz.prog 7 #[] w fun e w' => e = .returned (.bool true) ∧ Below w.heap.size w w' := by
 have E1 := hide exam_play1
 have E2 := hide exam_play2
 have E3 := hide exam_play3
 have FR := hide (fun w' : World => fresh_two w')
 simp only [Shp.val] at E1 E2 E3
 go_enter Tryz.func7, Tryz.ntmps7
 go_upto_region 2 with (fail)
 obtain ⟨W0, hW0⟩ : ∃ W0, w.alloc (.cells #[.int .i64 2, .int .i64 1, .int .i64 1, .int .i64 1, .int .i64 0, .int .i64 0] 23) = W0 := ⟨_, rfl⟩
 rw [hW0]
 have b0 : Below w.heap.size w W0 := by rw [← hW0]; exact (Below.refl _ w).alloc (Nat.le_refl _) _
 have z0 : W0.heap.size = w.heap.size + 1 := by rw [← hW0]; simp
 have R0 : W0.rowIs w.heap.size 23 6 (fun i => (#[Value.int .i64 2, .int .i64 1, .int .i64 1, .int .i64 1, .int .i64 0, .int .i64 0]).getD i undef) := by rw [← hW0]; exact row_arr w _ _
 have keep : Hid (∀ w' : World, Below W0.heap.size W0 w' → Below w.heap.size w w' ∧ w.heap.size < w'.heap.size ∧ w'.cell? ⟨w.heap.size, 0, none⟩ = some (.int .i64 2) ∧ w'.cell? ⟨w.heap.size, 1, none⟩ = some (.int .i64 1) ∧ w'.cell? ⟨w.heap.size, 2, none⟩ = some (.int .i64 1) ∧ w'.cell? ⟨w.heap.size, 3, none⟩ = some (.int .i64 1) ∧ w'.cell? ⟨w.heap.size, 4, none⟩ = some (.int .i64 0) ∧ w'.cell? ⟨w.heap.size, 5, none⟩ = some (.int .i64 0)) := fun w' hb => by
  have r := R0.of_block (hb.block w.heap.size R0.lt)
  exact ⟨b0.trans (hb.mono b0.size), r.lt, r.cell (i := 0) (by decide), r.cell (i := 1) (by decide), r.cell (i := 2) (by decide), r.cell (i := 3) (by decide), r.cell (i := 4) (by decide), r.cell (i := 5) (by decide)⟩
 obtain ⟨-, l0, c0, c1, c2, c3, c4, c5⟩ := keep.out W0 (Below.refl _ _)
 clear b0 R0
 go_wp2_with fail
 refine (FR.out W0).mono ?_
 rintro e w1 ⟨g, rfl, hr, hg, hg1⟩
 have B1 := hide hg1
 have HR := hide hr
 have lg := hr.lt
 clear c0 c1 c2 c3 c4 c5 hW0 hg1 hr FR
 obtain ⟨-, l1, c0, c1, c2, c3, c4, c5⟩ := keep.out w1 B1.out
 have s1 := B1.out.size
 have HZ := hide z0
 clear z0
 go_upto_region 4 with (fail)
 obtain ⟨W2, hW2⟩ : ∃ W2, w1.alloc (.cells #[.int .i64 1, .int .i64 0, .int .i64 0, .int .i64 0, .int .u64 0] 52) = W2 := ⟨_, rfl⟩
 rw [hW2]
 have z0 := HZ.out
 have B2 := hide (show Below W0.heap.size W0 W2 from by rw [← hW2]; exact B1.out.alloc s1 _)
 have HR2 := hide (show IsRow W2 g 18 18 f0 from by rw [← hW2]; exact HR.out.alloc _)
 have z2 : W2.heap.size = w1.heap.size + 1 := by rw [← hW2]; simp
 have RJ := hide (show W2.rowIs w1.heap.size 52 5 (fun i => (#[Value.int .i64 1, .int .i64 0, .int .i64 0, .int .i64 0, .int .u64 0]).getD i undef) from by rw [← hW2]; exact row_arr w1 _ _)
 have j0 : W2.cell? ⟨w1.heap.size, 0, none⟩ = some (.int .i64 1) := RJ.out.cell (i := 0) (by decide)
 have j1 : W2.cell? ⟨w1.heap.size, 1, none⟩ = some (.int .i64 0) := RJ.out.cell (i := 1) (by decide)
 have j2 : W2.cell? ⟨w1.heap.size, 2, none⟩ = some (.int .i64 0) := RJ.out.cell (i := 2) (by decide)
 have j3 : W2.cell? ⟨w1.heap.size, 3, none⟩ = some (.int .i64 0) := RJ.out.cell (i := 3) (by decide)
 have j4 : W2.cell? ⟨w1.heap.size, 4, none⟩ = some (.int .u64 0) := RJ.out.cell (i := 4) (by decide)
 have lj : w1.heap.size < W2.heap.size := by omega
 have lg2 : g < W2.heap.size := by omega
 clear z2
 clear c0 c1 c2 c3 c4 c5 l1 B1 HR
 obtain ⟨-, l1, c0, c1, c2, c3, c4, c5⟩ := keep.out W2 B2.out
 clear z0 s1 hg hW2
 go_wp2_with fail
 refine (E1.out W2 HR2.out lg2).mono ?_
 intro e w3 hq
 obtain ⟨hb, sa, ns, sc, g1, ba, b1, cap1, rfl, lba, lb1, hA, hAn⟩ := ex_told hq
 have B23 : Below W2.heap.size W2 w3 := (((Below.refl W2.heap.size W2).alloc (Nat.le_refl _) _).alloc (by simp) _).trans (hb.mono (by simp; omega))
 have x1 := (hAn 0 (by decide)).2
 have x3 := (hAn 1 (by decide)).2
 have x4 := (hAn 2 (by decide)).1
 have x6 := (hAn 3 (by decide)).1
 have x7 := (hAn 3 (by decide)).2
 have x8 := (hAn 4 (by decide)).1
 have x9 := (hAn 4 (by decide)).2
 rw [Exam.a0] at x1
 rw [Exam.a1] at x3
 rw [Exam.a2] at x4
 rw [Exam.a3.1] at x6
 rw [Exam.a3.2] at x7
 rw [Exam.a4.1] at x8
 rw [Exam.a4.2] at x9
 simp only [Nat.zero_mul, Nat.reduceMul, Nat.reduceAdd, Nat.zero_add] at x1 x3 x4 x6 x7 x8 x9
 have s23 := B23.size
 have B3 := hide (B2.out.trans (B23.mono B2.out.size))
 have HR3 := hide (show IsRow w3 g 18 18 f0 from HR2.out.block (B23.block g lg2))
 have lg3 : g < w3.heap.size := by omega
 clear hb hq hAn B23 c0 c1 c2 c3 c4 c5 l1 lj lg2 HR2 E1 B2 RJ s23 j0 j1 j2 j3 j4
 obtain ⟨-, l1, c0, c1, c2, c3, c4, c5⟩ := keep.out w3 B3.out
 go_upto_region 5 with (fail)
 obtain ⟨W4, hW4⟩ : ∃ W', w3.alloc (.cells #[.slice sa ns sc, .slice (some ⟨g1, 0, none⟩) 18 18, .bool true] 32) = W' := ⟨_, rfl⟩
 rw [hW4]
 have BN : Below w3.heap.size w3 W4 := by rw [← hW4]; exact (Below.refl _ w3).alloc (Nat.le_refl _) _
 have HRN := hide (show IsRow W4 g 18 18 f0 from by rw [← hW4]; exact HR3.out.alloc _)
 have BM := hide (B3.out.trans (BN.mono B3.out.size))
 have RTR := row_arr w3 #[.slice sa ns sc, .slice (some ⟨g1, 0, none⟩) 18 18, .bool true] 32
 rw [hW4] at RTR
 have t2 : W4.cell? ⟨w3.heap.size, 2, none⟩ = some (.bool true) := RTR.cell (i := 2) (by simp)
 have lt : w3.heap.size < W4.heap.size := RTR.lt
 have x1 := (BN.cell (p := ⟨b1, 1, none⟩) lb1).trans x1
 have x3 := (BN.cell (p := ⟨b1, 3, none⟩) lb1).trans x3
 have x4 := (BN.cell (p := ⟨b1, 4, none⟩) lb1).trans x4
 have x6 := (BN.cell (p := ⟨b1, 6, none⟩) lb1).trans x6
 have x7 := (BN.cell (p := ⟨b1, 7, none⟩) lb1).trans x7
 have x8 := (BN.cell (p := ⟨b1, 8, none⟩) lb1).trans x8
 have x9 := (BN.cell (p := ⟨b1, 9, none⟩) lb1).trans x9
 have hA := (BN.cell (p := ⟨ba, 0, none⟩) lba).trans hA
 have sN := BN.size
 replace lba : ba < W4.heap.size := by omega
 replace lb1 : b1 < W4.heap.size := by omega
 replace lg3 : g < W4.heap.size := by omega
 clear c0 c1 c2 c3 c4 c5 l1 hW4 RTR BN HR3 B3 sN
 obtain ⟨-, l1, c0, c1, c2, c3, c4, c5⟩ := keep.out W4 BM.out
 go_wp2_with fail
 refine (E2.out W4 HRN.out lg3).mono ?_
 intro e w5 hq
 obtain ⟨rfl, hb⟩ := exam_err2 hq
 have B45 : Below W4.heap.size W4 w5 := (((Below.refl W4.heap.size W4).alloc (Nat.le_refl _) _).alloc (by simp) _).trans (hb.mono (by simp; omega))
 have s45 := B45.size
 have B5 := hide (BM.out.trans (B45.mono BM.out.size))
 have HR5 := hide (show IsRow w5 g 18 18 f0 from HRN.out.block (B45.block g lg3))
 have x1 := (B45.cell (p := ⟨b1, 1, none⟩) lb1).trans x1
 have x3 := (B45.cell (p := ⟨b1, 3, none⟩) lb1).trans x3
 have x4 := (B45.cell (p := ⟨b1, 4, none⟩) lb1).trans x4
 have x6 := (B45.cell (p := ⟨b1, 6, none⟩) lb1).trans x6
 have x7 := (B45.cell (p := ⟨b1, 7, none⟩) lb1).trans x7
 have x8 := (B45.cell (p := ⟨b1, 8, none⟩) lb1).trans x8
 have x9 := (B45.cell (p := ⟨b1, 9, none⟩) lb1).trans x9
 have hA := (B45.cell (p := ⟨ba, 0, none⟩) lba).trans hA
 have t2 := (B45.cell (p := ⟨w3.heap.size, 2, none⟩) lt).trans t2
 replace lba : ba < w5.heap.size := by omega
 replace lb1 : b1 < w5.heap.size := by omega
 replace lg3 : g < w5.heap.size := by omega
 replace lt : w3.heap.size < w5.heap.size := by omega
 clear hb hq B45 c0 c1 c2 c3 c4 c5 l1 HRN BM s45 E2
 obtain ⟨-, l1, c0, c1, c2, c3, c4, c5⟩ := keep.out w5 B5.out
 unfold errVal
 go_upto_region 6 with (fail)
 obtain ⟨W6, hW6⟩ : ∃ W', w5.alloc (.cells #[.slice none 0 0, .slice none 0 0, .bool false] 32) = W' := ⟨_, rfl⟩
 rw [hW6]
 have BN : Below w5.heap.size w5 W6 := by rw [← hW6]; exact (Below.refl _ w5).alloc (Nat.le_refl _) _
 have HRN := hide (show IsRow W6 g 18 18 f0 from by rw [← hW6]; exact HR5.out.alloc _)
 have BM := hide (B5.out.trans (BN.mono B5.out.size))
 have x1 := (BN.cell (p := ⟨b1, 1, none⟩) lb1).trans x1
 have x3 := (BN.cell (p := ⟨b1, 3, none⟩) lb1).trans x3
 have x4 := (BN.cell (p := ⟨b1, 4, none⟩) lb1).trans x4
 have x6 := (BN.cell (p := ⟨b1, 6, none⟩) lb1).trans x6
 have x7 := (BN.cell (p := ⟨b1, 7, none⟩) lb1).trans x7
 have x8 := (BN.cell (p := ⟨b1, 8, none⟩) lb1).trans x8
 have x9 := (BN.cell (p := ⟨b1, 9, none⟩) lb1).trans x9
 have hA := (BN.cell (p := ⟨ba, 0, none⟩) lba).trans hA
 have t2 := (BN.cell (p := ⟨w3.heap.size, 2, none⟩) lt).trans t2
 have sN := BN.size
 replace lba : ba < W6.heap.size := by omega
 replace lb1 : b1 < W6.heap.size := by omega
 replace lg3 : g < W6.heap.size := by omega
 replace lt : w3.heap.size < W6.heap.size := by omega
 clear c0 c1 c2 c3 c4 c5 l1 hW6 BN HR5 B5 sN
 obtain ⟨-, l1, c0, c1, c2, c3, c4, c5⟩ := keep.out W6 BM.out
 go_wp2_with fail
 refine (E3.out W6 HRN.out lg3).mono ?_
 intro e w7 hq
 obtain ⟨rfl, hb⟩ := exam_err3 hq
 have B67 : Below W6.heap.size W6 w7 := (((Below.refl W6.heap.size W6).alloc (Nat.le_refl _) _).alloc (by simp) _).trans (hb.mono (by simp; omega))
 have s67 := B67.size
 have B7 := hide (BM.out.trans (B67.mono BM.out.size))
 have x1 := (B67.cell (p := ⟨b1, 1, none⟩) lb1).trans x1
 have x3 := (B67.cell (p := ⟨b1, 3, none⟩) lb1).trans x3
 have x4 := (B67.cell (p := ⟨b1, 4, none⟩) lb1).trans x4
 have x6 := (B67.cell (p := ⟨b1, 6, none⟩) lb1).trans x6
 have x7 := (B67.cell (p := ⟨b1, 7, none⟩) lb1).trans x7
 have x8 := (B67.cell (p := ⟨b1, 8, none⟩) lb1).trans x8
 have x9 := (B67.cell (p := ⟨b1, 9, none⟩) lb1).trans x9
 have hA := (B67.cell (p := ⟨ba, 0, none⟩) lba).trans hA
 have t2 := (B67.cell (p := ⟨w3.heap.size, 2, none⟩) lt).trans t2
 replace lba : ba < w7.heap.size := by omega
 replace lb1 : b1 < w7.heap.size := by omega
 replace lt : w3.heap.size < w7.heap.size := by omega
 have BF := hide ((keep.out _ (B7.out.alloc B7.out.size (.cells #[.slice none 0 0, .slice none 0 0, .bool false] 32))).1)
 clear hb hq B67 c0 c1 c2 c3 c4 c5 l1 HRN BM s67 E3 keep B7 l0 lg lg3
 unfold errVal
 go_wp2_with fail
 go_ret
 exact ⟨rfl, BF.out⟩
end Rom
end
end Go.Proofs.YtppgbndoijppnaaGreat
