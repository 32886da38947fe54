/-
  Lemmas: SeqL.
-/
import Derived.Test.YtkiojiibppdjjaaTp30
import Derived.Test.YtkiojiibppdjjaaTp19
/-
  Seq's Fresh, and the statements' own example through it.
-/
namespace Go.Proofs.Ytkiojiibppdjjaa
open Go.RowKit
set_option linter.unusedVariables false
set_option linter.unusedSimpArgs false
set_option maxRecDepth 20000
namespace Seq

set_option maxHeartbeats 2000000 in
theorem fresh_ok (w : World) (sh : Shp) (h1 : 1 ≤ sh.f) (h2 : sh.f ≤ 64) {want : Nat} (hwant : (want : Int) = 1 + sh.f) : Calls Try.prog 22 #[sh.val] w fun e w' => ∃ g, e = .returned (.tuple #[.slice (some ⟨g, 0, none⟩) want want, .int .i64 0]) ∧ IsRow w' g want want (fun _ => 0) ∧ w.heap.size ≤ g ∧ w.grownBy w' none := by
  have SZ := hide (fun w' : World => size_ok w' sh h1 h2)
  obtain ⟨s0, s1, s2, s3, s4, s5⟩ := sh
  simp only [Shp.val] at SZ h1 h2 hwant ⊢
  rw [← hwant] at SZ
  have hmk := run_make_z (P := Try.prog) 24 47 _ 1 8 Try.underlying24 info46 want (by omega) (by omega)
  simp only [Nat.mul_one] at hmk
  have hw4 : want ≤ 128 := by omega
  clear hwant
  go_enter Try.func22, Try.ntmps22
  go_wp2_with (go_at_call 20; refine (SZ.out _).mono ?_; rintro e w1 ⟨rfl, hg1⟩; have HG := hide hg1; have sz1 := hg1.size; simp only [World.size_alloc] at sz1; clear hg1)
  go_ret2
  exact ⟨w1.heap.size, rfl, ⟨Nat.le_refl _, by unfold maxLen; omega, ⟨_, World.rowIs_made w1 (.int .u64 0) want 47, fun i hi => rfl⟩, fun i hi => ⟨Int.le_refl 0, by show (0 : Int) ≤ 18446744073709551615; decide⟩⟩, by omega, grown_alloc (grown_trans (grown_alloc (grown_refl _ _) _) HG.out) _⟩
set_option maxHeartbeats 2000000 in
theorem fresh_bad (w : World) (sh : Shp) (h : sh.f < 1 ∨ 64 < sh.f) : Calls Try.prog 22 #[sh.val] w fun e w' => e = .returned (.tuple #[.slice none 0 0, .int .i64 120]) ∧ w.grownBy w' none := by
  have SZ := hide (fun w' : World => size_bad w' sh h)
  obtain ⟨s0, s1, s2, s3, s4, s5⟩ := sh
  simp only [Shp.val] at SZ h ⊢
  go_enter Try.func22, Try.ntmps22
  go_wp2_with (go_at_call 20; refine (SZ.out _).mono ?_; rintro e w1 ⟨rfl, hg1⟩; have HG := hide hg1; clear hg1)
  go_ret2
  exact ⟨rfl, grown_trans (grown_alloc (grown_refl _ _) _) HG.out⟩

namespace Exam
def P0 : Par := { n := 3, nh := 1, jn := fun _ => 2, jb := fun _ j => if j = 0 then ⟨1, 0, 0, 0, 5⟩ else ⟨2, 0, 0, 0, 0⟩, ns := 0, sched := fun _ => 0 }
def s9 : St (kSeq 2) := runSt P0 (st0 (kSeq 2) P0 (fun _ => 0)) 99
theorem k9 : s9.k = 9 := by decide +kernel
theorem e9 : Go.Proofs.Ytkiojiibppdjjaa.cnt (s9.going P0) P0.nh = 0 := by decide +kernel
theorem d9 : s9.done 0 = 2 := by decide +kernel
theorem a1 : (s9.ans 0 1).val = 5 ∧ (s9.ans 0 1).ok = true := by decide +kernel
end Exam

theorem exam_play (v : World) (g : Nat) (R : IsRow v g 3 3 (fun _ => 0)) (hgl : g < v.heap.size) : Calls Try.prog 14 #[(⟨0, 0, 0, 0, 0, 2⟩ : Shp).val, .slice (some ⟨g, 0, none⟩) 3 3, .slice (some ⟨v.heap.size + 1, 0, none⟩) 1 1, .slice none 0 0, .int .i64 99]
    ((v.alloc (.cells #[.int .i64 1, .int .i64 0, .int .i64 0, .int .i64 0, .int .u64 5, .int .i64 2, .int .i64 0, .int .i64 0, .int .i64 0, .int .u64 0] 49)).alloc (.cells #[.slice (some ⟨v.heap.size, 0, none⟩) 2 2] 78)) (LAll (kSeq 2) 3 ((v.alloc (.cells #[.int .i64 1, .int .i64 0, .int .i64 0, .int .i64 0, .int .u64 5, .int .i64 2, .int .i64 0, .int .i64 0, .int .i64 0, .int .u64 0] 49)).alloc (.cells #[.slice (some ⟨v.heap.size, 0, none⟩) 2 2] 78)) Exam.P0 (fun _ => 0) 99) := by
  have B0 : Below v.heap.size v ((v.alloc (.cells #[.int .i64 1, .int .i64 0, .int .i64 0, .int .i64 0, .int .u64 5, .int .i64 2, .int .i64 0, .int .i64 0, .int .i64 0, .int .u64 0] 49)).alloc (.cells #[.slice (some ⟨v.heap.size, 0, none⟩) 2 2] 78)) := ((Below.refl _ v).alloc (Nat.le_refl _) _).alloc (by simp) _
  have R1 := (row_arr v #[.int .i64 1, .int .i64 0, .int .i64 0, .int .i64 0, .int .u64 5, .int .i64 2, .int .i64 0, .int .i64 0, .int .i64 0, .int .u64 0] 49).alloc (.cells #[.slice (some ⟨v.heap.size, 0, none⟩) 2 2] 78)
  have R3 := row_arr (v.alloc (.cells #[.int .i64 1, .int .i64 0, .int .i64 0, .int .i64 0, .int .u64 5, .int .i64 2, .int .i64 0, .int .i64 0, .int .i64 0, .int .u64 0] 49)) #[.slice (some ⟨v.heap.size, 0, none⟩) 2 2] 78
  simp only [World.size_alloc] at R1 R3
  refine play_all (sh := ⟨0, 0, 0, 0, 0, 2⟩) (P := Exam.P0) (f := fun _ => 0) (most := 99) (want := 3) (by decide) (by decide) (by decide) ?_ (fun i _ => by constructor <;> decide) ?_ (by decide) ?_ (fun h _ j _ => ?_)
  · exact (R.sees.below B0 (Nat.le_refl _)).mono (by simp; omega)
  · intro h hh
    have : h < 1 := hh
    match h, this with
    | 0, _ =>
      refine ⟨v.heap.size + 1, 0, some ⟨v.heap.size, 0, none⟩, 2, rfl, R3.lt, R3.cell (i := 0) (by simp), ?_⟩
      intro i hi
      refine ⟨v.heap.size, 0, rfl, R1.lt, fun q hq => ?_⟩
      have : i < 2 := hi
      match i, this, q, hq with
      | 0, _, 0, _ => exact R1.cell (i := 0) (by decide)
      | 0, _, 1, _ => exact R1.cell (i := 1) (by decide)
      | 0, _, 2, _ => exact R1.cell (i := 2) (by decide)
      | 0, _, 3, _ => exact R1.cell (i := 3) (by decide)
      | 0, _, 4, _ => exact R1.cell (i := 4) (by decide)
      | 1, _, 0, _ => exact R1.cell (i := 5) (by decide)
      | 1, _, 1, _ => exact R1.cell (i := 6) (by decide)
      | 1, _, 2, _ => exact R1.cell (i := 7) (by decide)
      | 1, _, 3, _ => exact R1.cell (i := 8) (by decide)
      | 1, _, 4, _ => exact R1.cell (i := 9) (by decide)
  · intro j hj
    exact absurd hj (Nat.not_lt_zero j)
  · simp only [Exam.P0, Jb.wf]
    repeat' split
    all_goals decide

set_option maxHeartbeats 4000000 in
theorem awake_any (w : World) : Calls Try.prog 9 #[] w fun e w' => e = .returned (.bool true) ∧ Below w.heap.size w w' := by
  have FR := hide (fun w' : World => fresh_ok w' ⟨0, 0, 0, 0, 0, 2⟩ (by decide) (by decide) (want := 3) (by decide))
  have EX := hide exam_play
  simp only [Shp.val] at FR EX
  obtain ⟨W0, hW0⟩ : ∃ W0, w.alloc (.cells #[.int .i64 0, .int .i64 0, .int .i64 0, .int .i64 0, .int .i64 0, .int .i64 2] 23) = W0 := ⟨_, rfl⟩
  have b0 : Below w.heap.size w W0 := by rw [← hW0]; exact (Below.refl _ w).alloc (Nat.le_refl _) _
  have R0 : W0.rowIs w.heap.size 23 6 (fun i => (#[Value.int .i64 0, .int .i64 0, .int .i64 0, .int .i64 0, .int .i64 0, .int .i64 2]).getD i undef) := by rw [← hW0]; exact row_arr w _ _
  have keep : Hid (∀ w' : World, Below W0.heap.size W0 w' → Below w.heap.size w w' ∧ w.heap.size < w'.heap.size ∧ w'.cell? ⟨w.heap.size, 0, none⟩ = some (.int .i64 0) ∧ w'.cell? ⟨w.heap.size, 1, none⟩ = some (.int .i64 0) ∧ w'.cell? ⟨w.heap.size, 2, none⟩ = some (.int .i64 0) ∧ w'.cell? ⟨w.heap.size, 3, none⟩ = some (.int .i64 0) ∧ w'.cell? ⟨w.heap.size, 4, none⟩ = some (.int .i64 0) ∧ w'.cell? ⟨w.heap.size, 5, none⟩ = some (.int .i64 2)) := fun w' hb => by
    have r := R0.of_block (hb.block w.heap.size R0.lt)
    exact ⟨b0.trans (hb.mono b0.size), r.lt, r.cell (i := 0) (by decide), r.cell (i := 1) (by decide), r.cell (i := 2) (by decide), r.cell (i := 3) (by decide), r.cell (i := 4) (by decide), r.cell (i := 5) (by decide)⟩
  obtain ⟨_, l0, c0, c1, c2, c3, c4, c5⟩ := keep.out W0 (Below.refl _ _)
  clear b0 R0
  go_enter Try.func9, Try.ntmps9
  go_wp2_with fail
  refine (FR.out _).mono ?_
  rintro e w2 ⟨g, rfl, hr2, hg2, hgr⟩
  have B2 := hide (below_of_grown_none hgr W0.heap.size (Nat.le_refl _))
  have HR2 := hide hr2
  clear hgr hr2 c0 c1 c2 c3 c4 c5 hW0
  obtain ⟨bw2, l2, c0, c1, c2, c3, c4, c5⟩ := keep.out w2 B2.out
  have HB2 := hide bw2
  clear bw2
  go_wp2_with fail
  refine (EX.out w2 g HR2.out HR2.out.lt).mono ?_
  rintro e w3 ⟨hb, hcase⟩
  have BX : Below w2.heap.size w2 ((w2.alloc (.cells #[.int .i64 1, .int .i64 0, .int .i64 0, .int .i64 0, .int .u64 5, .int .i64 2, .int .i64 0, .int .i64 0, .int .i64 0, .int .u64 0] 49)).alloc (.cells #[.slice (some ⟨w2.heap.size, 0, none⟩) 2 2] 78)) := ((Below.refl w2.heap.size w2).alloc (Nat.le_refl _) _).alloc (by simp) _
  have BB := hide (HB2.out.trans ((BX.trans (hb.mono (by simp; omega))).mono (by omega)))
  clear hb BX c0 c1 c2 c3 c4 c5
  rcases hcase with ⟨er, hle, rfl⟩ | ⟨_, hF, hok, v, rfl, blk, c, g', sv, rfl, H, G, GS, R, hg, hne⟩
  · refine absurd ⟨?_, ?_⟩ (show ¬ (Fine Exam.P0 99 ∧ AllOk (kSeq 2) Exam.P0) from by rcases hle with ⟨h, _⟩ | ⟨_, h⟩; exact absurd rfl h; exact h.not)
    · refine ⟨by decide, ?_, by decide, by decide, by decide⟩
      rintro (h | ⟨h, _, h2⟩)
      · exact absurd h (by decide)
      · have h3 : 256 < 2 := h2
        omega
    · intro h hh j hj
      have : h < 1 := hh
      match h, this with
      | 0, _ =>
        have : j < 2 := hj
        match j, this with
        | 0, _ => decide
        | 1, _ => decide
  · have hst : runSt Exam.P0 (st0 (kSeq 2) Exam.P0 (fun _ => 0)) (Int.toNat 99) = Exam.s9 := rfl
    rw [hst] at G GS R ⊢
    rw [Exam.e9]
    obtain ⟨b, cap, rfl, hbl, _, hcs⟩ := grows_cell GS H (stepCells_length _ _) (by rw [Exam.k9]; decide)
    obtain ⟨A, eA, hA⟩ := G.answers
    have a0 := hA 0 (by decide)
    rw [Exam.d9] at a0
    obtain ⟨b', cap', eA0, hbl', _, hcs'⟩ := grows_cell a0 H (ansCells_length _ _) (by decide)
    have ac := hcs' _ _ (ansCells_get (Exam.s9.ans 0) 2 1 1 (by decide) (by decide))
    have ak := hcs' _ _ (ansCells_get (Exam.s9.ans 0) 2 1 0 (by decide) (by decide))
    simp only [Ans.cell, Exam.a1.1, Exam.a1.2] at ac ak
    have ah := H.cell eA (i := 0) (show 0 < 1 by decide)
    simp only [eA0] at ah
    have la := H.lt eA
    rw [Exam.k9]
    have n1 : Exam.P0.n = 3 := rfl
    have n2 : Exam.P0.nh = 1 := rfl
    rw [n1, n2]
    obtain ⟨ba, hba⟩ : ∃ ba, blk .answers = ba := ⟨_, rfl⟩
    rw [hba] at ah la ⊢
    simp only [Nat.zero_mul, Nat.zero_add, Nat.reduceMul, Nat.reduceAdd] at ac ak
    clear H G GS R hne hcs hcs' hA a0 hok hst hF
    simp only [decide_true]
    go_wp2_with fail
    go_ret
    exact ⟨rfl, BB.out.alloc (by have := BB.out.size; omega) _⟩
end Seq
end Go.Proofs.Ytkiojiibppdjjaa
