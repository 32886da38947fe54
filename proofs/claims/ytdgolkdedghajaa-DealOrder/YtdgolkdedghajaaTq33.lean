/-
  Lemmas: DealL.
-/
import Derived.Test.YtdgolkdedghajaaTq32
import Derived.Test.YtdgolkdedghajaaTq18
/-
  The chapter's example through the deal.
-/
namespace Go.Proofs.Ytdgolkdedghajaa
open Go.RowKit
set_option linter.unusedVariables false
set_option linter.unusedSimpArgs false
set_option maxRecDepth 20000
namespace Deal

set_option maxHeartbeats 2000000 in
theorem fresh_ok (w : World) (sh : Shp) (h1 : 1 ≤ sh.f) (h2 : sh.f ≤ 64) {want : Nat} (hwant : (want : Int) = 2 + sh.f) : Calls Try.prog 24 #[sh.val] w fun e w' => ∃ g, e = .returned (.tuple #[.slice (some ⟨g, 0, none⟩) want want, .int .i64 0]) ∧ IsRow w' g want want (fun _ => 0) ∧ w.heap.size ≤ g ∧ w.grownBy w' none := by
  have SZ := hide (fun w' : World => size_ok w' sh h1 h2)
  obtain ⟨s0, s1, s2, s3, s4, s5⟩ := sh
  simp only [Shp.val] at SZ h1 h2 hwant ⊢
  rw [← hwant] at SZ
  have hmk := run_make_z (P := Try.prog) 24 39 _ 1 8 Try.underlying24 info46 want (by omega) (by omega)
  simp only [Nat.mul_one] at hmk
  have hw4 : want ≤ 128 := by omega
  clear hwant
  go_enter Try.func24, Try.ntmps24
  go_wp2_with (go_at_call 29; refine (SZ.out _).mono ?_; rintro e w1 ⟨rfl, hg1⟩; have HG := hide hg1; have sz1 := hg1.size; simp only [World.size_alloc] at sz1; clear hg1)
  go_ret2
  exact ⟨w1.heap.size, rfl, ⟨Nat.le_refl _, by unfold maxLen; omega, ⟨_, World.rowIs_made w1 (.int .u64 0) want 39, fun i hi => rfl⟩, fun i hi => ⟨Int.le_refl 0, by show (0 : Int) ≤ 18446744073709551615; decide⟩⟩, by omega, grown_alloc (grown_trans (grown_alloc (grown_refl _ _) _) HG.out) _⟩
set_option maxHeartbeats 2000000 in
theorem fresh_bad (w : World) (sh : Shp) (h : sh.f < 1 ∨ 64 < sh.f) : Calls Try.prog 24 #[sh.val] w fun e w' => e = .returned (.tuple #[.slice none 0 0, .int .i64 120]) ∧ w.grownBy w' none := by
  have SZ := hide (fun w' : World => size_bad w' sh h)
  obtain ⟨s0, s1, s2, s3, s4, s5⟩ := sh
  simp only [Shp.val] at SZ h ⊢
  go_enter Try.func24, Try.ntmps24
  go_wp2_with (go_at_call 29; refine (SZ.out _).mono ?_; rintro e w1 ⟨rfl, hg1⟩; have HG := hide hg1; clear hg1)
  go_ret2
  exact ⟨rfl, grown_trans (grown_alloc (grown_refl _ _) _) HG.out⟩

namespace Exam
def P0 : Par := { n := 4, nh := 2, jn := fun h => if h = 0 then 2 else 1, jb := fun h j => if h = 0 then (if j = 0 then ⟨1, 0, 0, 0, 5⟩ else ⟨2, 0, 0, 0, 0⟩) else ⟨3, 0, 0, 0, 0⟩, ns := 13, sched := fun i => if i = 4 then 1 else if i = 5 then 1 else if i = 6 then 1 else 0 }
def s16 : St (kDeal 2) := runSt P0 (st0 (kDeal 2) P0 (fun _ => 0)) 100
theorem k16 : s16.k = 16 := by decide +kernel
theorem e16 : cnt (s16.going P0) P0.nh = 0 := by decide +kernel
theorem d0 : s16.done 0 = 2 := by decide +kernel
theorem d1 : s16.done 1 = 1 := by decide +kernel
theorem a0 : (s16.ans 0 1).val = 5 ∧ (s16.ans 0 1).ok = true := by decide +kernel
theorem a1 : (s16.ans 1 0).val = 0 ∧ (s16.ans 1 0).ok = false := by decide +kernel
end Exam

theorem exam_play (v : World) : Calls Try.prog 15 #[(⟨0, 0, 0, 0, 0, 2⟩ : Shp).val, .slice (some ⟨v.heap.size, 0, none⟩) 4 4, .slice (some ⟨v.heap.size + 1 + 1 + 1, 0, none⟩) 2 2, .slice (some ⟨v.heap.size + 1 + 1 + 1 + 1, 0, none⟩) 13 13, .int .i64 100]
    (((((v.alloc (.cells #[.int .u64 0, .int .u64 0, .int .u64 0, .int .u64 0] 39)).alloc (.cells #[.int .i64 1, .int .i64 0, .int .i64 0, .int .i64 0, .int .u64 5, .int .i64 2, .int .i64 0, .int .i64 0, .int .i64 0, .int .u64 0] 52)).alloc (.cells #[.int .i64 3, .int .i64 0, .int .i64 0, .int .i64 0, .int .u64 0] 52)).alloc (.cells #[.slice (some ⟨v.heap.size + 1, 0, none⟩) 2 2, .slice (some ⟨v.heap.size + 1 + 1, 0, none⟩) 1 1] 50)).alloc (.cells #[.int .i64 0, .int .i64 0, .int .i64 0, .int .i64 0, .int .i64 1, .int .i64 1, .int .i64 1, .int .i64 0, .int .i64 0, .int .i64 0, .int .i64 0, .int .i64 0, .int .i64 0] 3)) (LAll (kDeal 2) 4 (((((v.alloc (.cells #[.int .u64 0, .int .u64 0, .int .u64 0, .int .u64 0] 39)).alloc (.cells #[.int .i64 1, .int .i64 0, .int .i64 0, .int .i64 0, .int .u64 5, .int .i64 2, .int .i64 0, .int .i64 0, .int .i64 0, .int .u64 0] 52)).alloc (.cells #[.int .i64 3, .int .i64 0, .int .i64 0, .int .i64 0, .int .u64 0] 52)).alloc (.cells #[.slice (some ⟨v.heap.size + 1, 0, none⟩) 2 2, .slice (some ⟨v.heap.size + 1 + 1, 0, none⟩) 1 1] 50)).alloc (.cells #[.int .i64 0, .int .i64 0, .int .i64 0, .int .i64 0, .int .i64 1, .int .i64 1, .int .i64 1, .int .i64 0, .int .i64 0, .int .i64 0, .int .i64 0, .int .i64 0, .int .i64 0] 3)) Exam.P0 (fun _ => 0) 100) := by
  have R0 := ((((row_arr v #[.int .u64 0, .int .u64 0, .int .u64 0, .int .u64 0] 39).alloc (.cells #[.int .i64 1, .int .i64 0, .int .i64 0, .int .i64 0, .int .u64 5, .int .i64 2, .int .i64 0, .int .i64 0, .int .i64 0, .int .u64 0] 52)).alloc (.cells #[.int .i64 3, .int .i64 0, .int .i64 0, .int .i64 0, .int .u64 0] 52)).alloc (.cells #[.slice (some ⟨v.heap.size + 1, 0, none⟩) 2 2, .slice (some ⟨v.heap.size + 1 + 1, 0, none⟩) 1 1] 50)).alloc (.cells #[.int .i64 0, .int .i64 0, .int .i64 0, .int .i64 0, .int .i64 1, .int .i64 1, .int .i64 1, .int .i64 0, .int .i64 0, .int .i64 0, .int .i64 0, .int .i64 0, .int .i64 0] 3)
  have R1 := (((row_arr (v.alloc (.cells #[.int .u64 0, .int .u64 0, .int .u64 0, .int .u64 0] 39)) #[.int .i64 1, .int .i64 0, .int .i64 0, .int .i64 0, .int .u64 5, .int .i64 2, .int .i64 0, .int .i64 0, .int .i64 0, .int .u64 0] 52).alloc (.cells #[.int .i64 3, .int .i64 0, .int .i64 0, .int .i64 0, .int .u64 0] 52)).alloc (.cells #[.slice (some ⟨v.heap.size + 1, 0, none⟩) 2 2, .slice (some ⟨v.heap.size + 1 + 1, 0, none⟩) 1 1] 50)).alloc (.cells #[.int .i64 0, .int .i64 0, .int .i64 0, .int .i64 0, .int .i64 1, .int .i64 1, .int .i64 1, .int .i64 0, .int .i64 0, .int .i64 0, .int .i64 0, .int .i64 0, .int .i64 0] 3)
  have R2 := ((row_arr ((v.alloc (.cells #[.int .u64 0, .int .u64 0, .int .u64 0, .int .u64 0] 39)).alloc (.cells #[.int .i64 1, .int .i64 0, .int .i64 0, .int .i64 0, .int .u64 5, .int .i64 2, .int .i64 0, .int .i64 0, .int .i64 0, .int .u64 0] 52)) #[.int .i64 3, .int .i64 0, .int .i64 0, .int .i64 0, .int .u64 0] 52).alloc (.cells #[.slice (some ⟨v.heap.size + 1, 0, none⟩) 2 2, .slice (some ⟨v.heap.size + 1 + 1, 0, none⟩) 1 1] 50)).alloc (.cells #[.int .i64 0, .int .i64 0, .int .i64 0, .int .i64 0, .int .i64 1, .int .i64 1, .int .i64 1, .int .i64 0, .int .i64 0, .int .i64 0, .int .i64 0, .int .i64 0, .int .i64 0] 3)
  have R3 := (row_arr (((v.alloc (.cells #[.int .u64 0, .int .u64 0, .int .u64 0, .int .u64 0] 39)).alloc (.cells #[.int .i64 1, .int .i64 0, .int .i64 0, .int .i64 0, .int .u64 5, .int .i64 2, .int .i64 0, .int .i64 0, .int .i64 0, .int .u64 0] 52)).alloc (.cells #[.int .i64 3, .int .i64 0, .int .i64 0, .int .i64 0, .int .u64 0] 52)) #[.slice (some ⟨v.heap.size + 1, 0, none⟩) 2 2, .slice (some ⟨v.heap.size + 1 + 1, 0, none⟩) 1 1] 50).alloc (.cells #[.int .i64 0, .int .i64 0, .int .i64 0, .int .i64 0, .int .i64 1, .int .i64 1, .int .i64 1, .int .i64 0, .int .i64 0, .int .i64 0, .int .i64 0, .int .i64 0, .int .i64 0] 3)
  have R4 := row_arr ((((v.alloc (.cells #[.int .u64 0, .int .u64 0, .int .u64 0, .int .u64 0] 39)).alloc (.cells #[.int .i64 1, .int .i64 0, .int .i64 0, .int .i64 0, .int .u64 5, .int .i64 2, .int .i64 0, .int .i64 0, .int .i64 0, .int .u64 0] 52)).alloc (.cells #[.int .i64 3, .int .i64 0, .int .i64 0, .int .i64 0, .int .u64 0] 52)).alloc (.cells #[.slice (some ⟨v.heap.size + 1, 0, none⟩) 2 2, .slice (some ⟨v.heap.size + 1 + 1, 0, none⟩) 1 1] 50)) #[.int .i64 0, .int .i64 0, .int .i64 0, .int .i64 0, .int .i64 1, .int .i64 1, .int .i64 1, .int .i64 0, .int .i64 0, .int .i64 0, .int .i64 0, .int .i64 0, .int .i64 0] 3
  simp only [World.size_alloc] at R1 R2 R3 R4
  refine play_all (sh := ⟨0, 0, 0, 0, 0, 2⟩) (P := Exam.P0) (f := fun _ => 0) (most := 100) (want := 4) (by decide) (by decide) (by decide) ?_ (fun i _ => by constructor <;> decide) ?_ (by decide) ?_ (fun h _ j _ => ?_)
  · intro j hj
    have : j < 4 := hj
    refine ⟨v.heap.size, 0, rfl, R0.lt, ?_⟩
    match j, this with
    | 0, _ => exact R0.cell (i := 0) (by decide)
    | 1, _ => exact R0.cell (i := 1) (by decide)
    | 2, _ => exact R0.cell (i := 2) (by decide)
    | 3, _ => exact R0.cell (i := 3) (by decide)
  · intro h hh
    have : h < 2 := hh
    match h, this with
    | 0, _ =>
      refine ⟨v.heap.size + 1 + 1 + 1, 0, some ⟨v.heap.size + 1, 0, none⟩, 2, rfl, R3.lt, R3.cell (i := 0) (by simp), ?_⟩
      intro i hi
      refine ⟨v.heap.size + 1, 0, rfl, R1.lt, fun q hq => ?_⟩
      have : i < 2 := hi
      match i, this, q, hq with
      | 0, _, 0, _ => exact R1.cell (i := 0) (by decide)
      | 0, _, 1, _ => exact R1.cell (i := 1) (by decide)
      | 0, _, 2, _ => exact R1.cell (i := 2) (by decide)
      | 0, _, 3, _ => exact R1.cell (i := 3) (by decide)
      | 0, _, 4, _ => exact R1.cell (i := 4) (by decide)
      | 1, _, 0, _ => exact R1.cell (i := 5) (by decide)
      | 1, _, 1, _ => exact R1.cell (i := 6) (by decide)
      | 1, _, 2, _ => exact R1.cell (i := 7) (by decide)
      | 1, _, 3, _ => exact R1.cell (i := 8) (by decide)
      | 1, _, 4, _ => exact R1.cell (i := 9) (by decide)
    | 1, _ =>
      refine ⟨v.heap.size + 1 + 1 + 1, 0, some ⟨v.heap.size + 1 + 1, 0, none⟩, 1, rfl, R3.lt, R3.cell (i := 1) (by simp), ?_⟩
      intro i hi
      refine ⟨v.heap.size + 1 + 1, 0, rfl, R2.lt, fun q hq => ?_⟩
      have : i < 1 := hi
      match i, this, q, hq with
      | 0, _, 0, _ => exact R2.cell (i := 0) (by decide)
      | 0, _, 1, _ => exact R2.cell (i := 1) (by decide)
      | 0, _, 2, _ => exact R2.cell (i := 2) (by decide)
      | 0, _, 3, _ => exact R2.cell (i := 3) (by decide)
      | 0, _, 4, _ => exact R2.cell (i := 4) (by decide)
  · intro j hj
    refine ⟨v.heap.size + 1 + 1 + 1 + 1, 0, rfl, R4.lt, ?_⟩
    have : j < 13 := hj
    match j, this with
    | 0, _ => exact R4.cell (i := 0) (by decide)
    | 1, _ => exact R4.cell (i := 1) (by decide)
    | 2, _ => exact R4.cell (i := 2) (by decide)
    | 3, _ => exact R4.cell (i := 3) (by decide)
    | 4, _ => exact R4.cell (i := 4) (by decide)
    | 5, _ => exact R4.cell (i := 5) (by decide)
    | 6, _ => exact R4.cell (i := 6) (by decide)
    | 7, _ => exact R4.cell (i := 7) (by decide)
    | 8, _ => exact R4.cell (i := 8) (by decide)
    | 9, _ => exact R4.cell (i := 9) (by decide)
    | 10, _ => exact R4.cell (i := 10) (by decide)
    | 11, _ => exact R4.cell (i := 11) (by decide)
    | 12, _ => exact R4.cell (i := 12) (by decide)
  · simp only [Exam.P0, Jb.wf]
    split
    · split <;> decide
    · decide

set_option maxHeartbeats 4000000 in
theorem alive_any (w : World) : Calls Try.prog 8 #[] w fun e w' => e = .returned (.bool true) ∧ Below w.heap.size w w' := by
  have TE := hide (fun w' : World => task_err w' ⟨0, 0, 0, 0, 0, 2⟩ 1 ⟨1, 0, 0, 0, 0⟩ (by decide) (by decide) (by decide))
  rw [show derr 1 ⟨1, 0, 0, 0, 0⟩ = 2 from by decide] at TE
  have EX := hide exam_play
  simp only [Shp.val, Jb.val] at TE EX
  obtain ⟨W0, hW0⟩ : ∃ W0, w.alloc (.cells #[.int .i64 0, .int .i64 0, .int .i64 0, .int .i64 0, .int .i64 0, .int .i64 2] 23) = W0 := ⟨_, rfl⟩
  have b0 : Below w.heap.size w W0 := by rw [← hW0]; exact (Below.refl _ w).alloc (Nat.le_refl _) _
  have R0 : W0.rowIs w.heap.size 23 6 (fun i => (#[Value.int .i64 0, .int .i64 0, .int .i64 0, .int .i64 0, .int .i64 0, .int .i64 2]).getD i undef) := by rw [← hW0]; exact row_arr w _ _
  have keep : Hid (∀ w' : World, Below W0.heap.size W0 w' → Below w.heap.size w w' ∧ w.heap.size < w'.heap.size ∧ w'.cell? ⟨w.heap.size, 0, none⟩ = some (.int .i64 0) ∧ w'.cell? ⟨w.heap.size, 1, none⟩ = some (.int .i64 0) ∧ w'.cell? ⟨w.heap.size, 2, none⟩ = some (.int .i64 0) ∧ w'.cell? ⟨w.heap.size, 3, none⟩ = some (.int .i64 0) ∧ w'.cell? ⟨w.heap.size, 4, none⟩ = some (.int .i64 0) ∧ w'.cell? ⟨w.heap.size, 5, none⟩ = some (.int .i64 2)) := fun w' hb => by
    have r := R0.of_block (hb.block w.heap.size R0.lt)
    exact ⟨b0.trans (hb.mono b0.size), r.lt, r.cell (i := 0) (by decide), r.cell (i := 1) (by decide), r.cell (i := 2) (by decide), r.cell (i := 3) (by decide), r.cell (i := 4) (by decide), r.cell (i := 5) (by decide)⟩
  obtain ⟨_, l0, c0, c1, c2, c3, c4, c5⟩ := keep.out W0 (Below.refl _ _)
  clear b0 R0
  go_enter Try.func8, Try.ntmps8
  go_wp2_with fail
  refine (EX.out W0).mono ?_
  rintro e w3 ⟨hb, hcase⟩
  have BX : Below W0.heap.size W0 (((((W0.alloc (.cells #[.int .u64 0, .int .u64 0, .int .u64 0, .int .u64 0] 39)).alloc (.cells #[.int .i64 1, .int .i64 0, .int .i64 0, .int .i64 0, .int .u64 5, .int .i64 2, .int .i64 0, .int .i64 0, .int .i64 0, .int .u64 0] 52)).alloc (.cells #[.int .i64 3, .int .i64 0, .int .i64 0, .int .i64 0, .int .u64 0] 52)).alloc (.cells #[.slice (some ⟨W0.heap.size + 1, 0, none⟩) 2 2, .slice (some ⟨W0.heap.size + 1 + 1, 0, none⟩) 1 1] 50)).alloc (.cells #[.int .i64 0, .int .i64 0, .int .i64 0, .int .i64 0, .int .i64 1, .int .i64 1, .int .i64 1, .int .i64 0, .int .i64 0, .int .i64 0, .int .i64 0, .int .i64 0, .int .i64 0] 3)) := ((((((Below.refl W0.heap.size W0).alloc (Nat.le_refl _) _).alloc (by simp) _).alloc (by simp; omega) _).alloc (by simp; omega) _).alloc (by simp; omega) _)
  have BB := hide (BX.trans (hb.mono (by simp; omega)))
  clear hb BX c0 c1 c2 c3 c4 c5 hW0
  rcases hcase with ⟨er, hle, rfl⟩ | ⟨_, hF, hok, v, rfl, blk, c, g', sv, rfl, H, G, GS, R, hg, hne⟩
  · refine absurd ⟨?_, ?_⟩ (show ¬ (Fine Exam.P0 100 ∧ AllOk (kDeal 2) Exam.P0) from by rcases hle with ⟨h, _⟩ | ⟨_, h⟩; exact absurd rfl h; exact h.not)
    · refine ⟨by decide, ?_, by decide, by decide, by decide⟩
      rintro (h | ⟨h, hh, h2⟩)
      · exact absurd h (by decide)
      · have h3 : 256 < (if h = 0 then 2 else 1) := h2
        split at h3 <;> omega
    · intro h hh j hj
      have : h < 2 := hh
      match h, this with
      | 0, _ =>
        have : j < 2 := hj
        match j, this with
        | 0, _ => decide
        | 1, _ => decide
      | 1, _ =>
        have : j < 1 := hj
        match j, this with
        | 0, _ => decide
  · have hst : runSt Exam.P0 (st0 (kDeal 2) Exam.P0 (fun _ => 0)) (Int.toNat 100) = Exam.s16 := rfl
    rw [hst] at G GS R ⊢
    rw [Exam.e16]
    obtain ⟨b, cap, rfl, hbl, _, hcs⟩ := grows_cell GS H (stepCells_length _ _) (by rw [Exam.k16]; decide)
    obtain ⟨A, eA, hA⟩ := G.answers
    have a0 := hA 0 (by decide)
    have a1 := hA 1 (by decide)
    rw [Exam.d0] at a0
    rw [Exam.d1] at a1
    obtain ⟨b0, cap0, eA0, hbl0, _, hcs0⟩ := grows_cell a0 H (ansCells_length _ _) (by decide)
    obtain ⟨b1, cap1, eA1, hbl1, _, hcs1⟩ := grows_cell a1 H (ansCells_length _ _) (by decide)
    have ac := hcs0 _ _ (ansCells_get (Exam.s16.ans 0) 2 1 1 (by decide) (by decide))
    have ak := hcs0 _ _ (ansCells_get (Exam.s16.ans 0) 2 1 0 (by decide) (by decide))
    have bc := hcs1 _ _ (ansCells_get (Exam.s16.ans 1) 1 0 1 (by decide) (by decide))
    have bk := hcs1 _ _ (ansCells_get (Exam.s16.ans 1) 1 0 0 (by decide) (by decide))
    simp only [Ans.cell, Exam.a0.1, Exam.a0.2, Exam.a1.1, Exam.a1.2] at ac ak bc bk
    have ah := H.cell eA (i := 0) (show 0 < 2 by decide)
    have ah1 := H.cell eA (i := 1) (show 1 < 2 by decide)
    simp only [eA0, eA1] at ah ah1
    have la := H.lt eA
    rw [Exam.k16]
    have n1 : Exam.P0.n = 4 := rfl
    have n2 : Exam.P0.nh = 2 := rfl
    rw [n1, n2]
    obtain ⟨ba, hba⟩ : ∃ ba, blk .answers = ba := ⟨_, rfl⟩
    rw [hba] at ah ah1 la ⊢
    simp only [Nat.zero_mul, Nat.zero_add, Nat.reduceMul, Nat.reduceAdd] at ac ak bc bk
    clear H G GS R hne hcs hcs0 hcs1 hA a0 a1 hok hst hF
    simp only [decide_true]
    obtain ⟨bw3, l3, c0, c1, c2, c3, c4, c5⟩ := keep.out w3 BB.out
    have HB3 := hide bw3
    have lw3 := BB.out.size
    clear bw3
    go_wp2_with fail
    refine (TE.out _).mono ?_
    rintro e w4 ⟨rfl, hg4⟩
    have hs4 := hg4.size
    simp only [World.size_alloc] at hs4
    have B34 : Below w3.heap.size w3 w4 := ((Below.refl w3.heap.size w3).alloc (Nat.le_refl _) _).trans (below_of_grown_none hg4 _ (by simp))
    have t0 : w4.cell? ⟨w3.heap.size, 0, none⟩ = some (.slice (some ⟨b, 0, none⟩) 16 cap) := hg4.cell (a := ⟨w3.heap.size, 0, none⟩) (by simp) (by simp)
    have t2 : w4.cell? ⟨w3.heap.size, 2, none⟩ = some (.bool true) := hg4.cell (a := ⟨w3.heap.size, 2, none⟩) (by simp) (by simp)
    have ac' := (B34.cell (p := ⟨b0, 3, none⟩) hbl0).trans ac
    have ak' := (B34.cell (p := ⟨b0, 2, none⟩) hbl0).trans ak
    have bc' := (B34.cell (p := ⟨b1, 1, none⟩) hbl1).trans bc
    have bk' := (B34.cell (p := ⟨b1, 0, none⟩) hbl1).trans bk
    have ah' := (B34.cell (p := ⟨ba, 0, none⟩) la).trans ah
    have ah1' := (B34.cell (p := ⟨ba, 1, none⟩) la).trans ah1
    have HB4 := hide (HB3.out.trans (B34.mono (by have := HB3.out.size; omega)))
    clear B34 hg4 ac ak bc bk ah ah1 c0 c1 c2 c3 c4 c5
    go_wp2_with fail
    go_ret
    exact ⟨rfl, HB4.out⟩
end Deal
end Go.Proofs.Ytdgolkdedghajaa
