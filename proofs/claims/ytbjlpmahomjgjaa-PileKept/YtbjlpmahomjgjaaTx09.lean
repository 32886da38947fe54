/-
  Lemmas: PileL.
-/
import Derived.Test.YtbjlpmahomjgjaaTx08
import Derived.Test.YtbjlpmahomjgjaaTp19
set_option linter.unusedVariables false
set_option linter.unusedSimpArgs false
set_option maxRecDepth 20000
namespace Go.Proofs.Ytbjlpmahomjgjaa
open Go.RowKit
namespace Pile

/-- Fresh words with the links of the places below k. -/
def pfr (k : Nat) (i : Nat) : Int := if i = 1 then 1 else if i % 2 = 0 ∧ 2 ≤ i ∧ i / 2 < k then ((i / 2 : Nat) : Int) + 1 else 0
theorem pfr_bounds {k : Nat} (hk : k ≤ 64) (i : Nat) : 0 ≤ pfr k i ∧ pfr k i ≤ 18446744073709551615 := by
  unfold pfr
  repeat' split
  all_goals omega
theorem pfr_one (i : Nat) : pfr 1 i = putF (fun _ => 0) 1 1 i := by
  show _ = if i = 1 then 1 else 0
  unfold pfr
  repeat' split
  all_goals omega
theorem pfr_next (k : Nat) (hk : 1 ≤ k) (i : Nat) : pfr (k + 1) i = putF (pfr k) (2 * k) ((k : Int) + 1) i := by
  unfold putF
  by_cases h : i = 2 * k
  · subst h
    rw [if_pos rfl]
    unfold pfr
    rw [if_neg (by omega), if_pos (by omega)]
    have : 2 * k / 2 = k := by omega
    rw [this]
  · rw [if_neg h]
    unfold pfr
    repeat' split
    all_goals omega

set_option maxHeartbeats 4000000 in
theorem fresh_ok (w : World) (sh : Shp) (h1 : 1 ≤ sh.f) (h2 : sh.f ≤ 64) {want r : Nat} (hr : (r : Int) = sh.f) (hwant : want = 2 + 2 * r) : Calls Try.prog 24 #[sh.val] w fun e w' => ∃ g, e = .returned (.tuple #[.slice (some ⟨g, 0, none⟩) want want, .int .i64 0]) ∧ IsRow w' g want want (pfr r) ∧ w.heap.size ≤ g ∧ w.grownBy w' none := by
  have SZ := hide (fun w' : World => size_ok w' sh h1 h2)
  obtain ⟨s0, s1, s2, s3, s4, s5⟩ := sh
  simp only [Shp.val] at SZ h1 h2 hr ⊢
  subst hr
  have ew : (2 + 2 * (r : Int)) = (want : Int) := by omega
  rw [ew] at SZ
  have hmk := run_make_z (P := Try.prog) 24 42 _ 1 8 Try.underlying24 info46 want (by omega) (by omega)
  simp only [Nat.mul_one] at hmk
  have hw4 : want ≤ 130 := by omega
  have hw2 : 4 ≤ want := by omega
  have r1 : 1 ≤ r := by omega
  have r64 : r ≤ 64 := by omega
  have HWT := hide hwant
  clear hwant ew
  go_enter Try.func24, Try.ntmps24
  go_wp2_with (go_at_call 44; refine (SZ.out _).mono ?_; rintro e w1 ⟨rfl, hg1⟩; have HG := hide hg1; have sz1 := hg1.size; simp only [World.size_alloc] at sz1; have sh5 : w1.cell? ⟨w.heap.size, 5, none⟩ = some (.int .i64 r) := hg1.cell (a := ⟨w.heap.size, 5, none⟩) (by simp) (by simp); clear hg1)
  refine (tagged_any 1 0 _).mono ?_
  rintro e w' ⟨rfl, rfl⟩
  have ehd : hd 1 0 = 1 := by decide
  rw [ehd]
  obtain ⟨W2, hW2⟩ : ∃ W2, w1.alloc (.cells (madeCells #[.int .u64 0] want) 42) = W2 := ⟨_, rfl⟩
  have R2 : IsRow W2 w1.heap.size want want (fun _ => 0) := by
    rw [← hW2]
    exact ⟨Nat.le_refl _, by unfold maxLen; omega, ⟨_, World.rowIs_made w1 (.int .u64 0) want 42, fun i hi => rfl⟩, fun i hi => ⟨Int.le_refl 0, by show (0 : Int) ≤ 18446744073709551615; decide⟩⟩
  have G2 := hide (show w.grownBy W2 none from by rw [← hW2]; exact grown_alloc (grown_trans (grown_alloc (grown_refl _ _) _) HG.out) _)
  have C2 : W2.cell? ⟨w.heap.size, 5, none⟩ = some (.int .i64 r) := by rw [← hW2]; exact ((((Below.refl w1.heap.size w1).alloc (Nat.le_refl _) _).cell (p := ⟨w.heap.size, 5, none⟩) (show w.heap.size < w1.heap.size by omega))).trans sh5
  have cc := R2.cell (show 1 < want by omega)
  have cf := R2.frozen 1
  have HR2 := hide R2
  have hi1 : (1 : Int) < want := by omega
  simp only [hW2]
  clear hW2 R2 sh5
  go_wp2_with fail
  go_loopw [7] (fun i wr => ∃ k : Nat, 1 ≤ k ∧ k ≤ r ∧ i = .int .i64 k ∧ IsRow wr w1.heap.size want want (pfr k) ∧ W2.grownBy wr (some w1.heap.size)) (fun i _ => r - (intOf i).toNat)
  case atStart => exact ⟨1, Nat.le_refl _, r1, rfl, (HR2.out.set 1 1 ⟨by decide, by decide⟩).congr (fun i _ => (pfr_one i).symm), grown_setCell (grown_refl _ _) _ (.inl rfl) _⟩
  case round =>
    obtain ⟨k, hk1, hk, rfl, hrw, hgr⟩ := hrel
    have sh5 : wr.cell? ⟨w.heap.size, 5, none⟩ = some (.int .i64 r) := hgr.cell (a := ⟨w.heap.size, 5, none⟩) C2 (by simp; omega)
    by_cases hlt : k < r
    · have hlt' : (k : Int) < r := by omega
      have HL := hide (fun w' : World => link_any (k : Int) (by omega) (by omega) w')
      have e2 : 2 * (k : Int) = ((2 * k : Nat) : Int) := by omega
      rw [e2] at HL
      have e3 : wrap64 ((k : Int) + 1) = (k : Int) + 1 := by unfold wrap64; omega
      have e4 : IntKind.u64.wrap ((k : Int) + 1) = (k : Int) + 1 := by rw [IntKind.wrap_u64]; omega
      have cc' := hrw.cell (show 2 * k < want by have := HWT.out; omega)
      have cf' := hrw.frozen (2 * k)
      have hib : ((2 * k : Nat) : Int) < want := by have := HWT.out; omega
      have hib2 : 2 * k < want := by have := HWT.out; omega
      obtain ⟨kk, hkk⟩ : ∃ kk, 2 * k = kk := ⟨_, rfl⟩
      rw [hkk] at HL cc' cf' hib hib2
      have HRW := hide hrw
      have HGR := hide hgr
      clear hrw hgr e2
      go_wp2_with (go_at_call 46; refine (HL.out _).mono ?_; rintro e w' ⟨rfl, rfl⟩)
      go_roundw
      case rel =>
        refine ⟨k + 1, by omega, by omega, by go_num, (HRW.out.set kk ((k : Int) + 1) ⟨by omega, by omega⟩).congr (fun i _ => ?_), grown_setCell HGR.out _ (.inl rfl) _⟩
        rw [← hkk]
        exact (pfr_next k hk1 i).symm
      case measure => simp [intOf]; omega
    · have hlt' : ¬ (k : Int) < r := by omega
      obtain rfl : k = r := by omega
      have HRW := hide hrw
      have HGR := hide hgr
      clear hrw hgr
      go_wp2_with fail
      go_ret2
      refine ⟨w1.heap.size, rfl, HRW.out, by omega, ?_⟩
      have t := (Touch.of_grown G2.out).trans' (Touch.of_grown HGR.out) (S' := fun q => some q = some w1.heap.size) (fun q hq h => by simp at h; omega)
      exact ⟨t.os, t.tape, t.output, t.size, fun q hq hn => t.block q hq (by simp)⟩
set_option maxHeartbeats 2000000 in
theorem fresh_bad (w : World) (sh : Shp) (h : sh.f < 1 ∨ 64 < sh.f) : Calls Try.prog 24 #[sh.val] w fun e w' => e = .returned (.tuple #[.slice none 0 0, .int .i64 120]) ∧ w.grownBy w' none := by
  have SZ := hide (fun w' : World => size_bad w' sh h)
  obtain ⟨s0, s1, s2, s3, s4, s5⟩ := sh
  simp only [Shp.val] at SZ h ⊢
  go_enter Try.func24, Try.ntmps24
  go_wp2_with (go_at_call 44; refine (SZ.out _).mono ?_; rintro e w1 ⟨rfl, hg1⟩; have HG := hide hg1; clear hg1)
  go_ret2
  exact ⟨rfl, grown_trans (grown_alloc (grown_refl _ _) _) HG.out⟩

namespace Exam
def P0 : Par := { n := 6, nh := 1, jn := fun _ => 4, jb := fun _ j => if j = 0 then ⟨1, 0, 0, 0, 7⟩ else if j = 1 then ⟨1, 0, 0, 0, 8⟩ else if j = 2 then ⟨1, 0, 0, 0, 9⟩ else ⟨2, 0, 0, 0, 0⟩, ns := 0, sched := fun _ => 0 }
def s22 : St kPile := runSt P0 (st0 kPile P0 (pfr 2)) 100
theorem k22 : s22.k = 22 := by decide +kernel
theorem e22 : cnt (s22.going P0) P0.nh = 0 := by decide +kernel
theorem d22 : s22.done 0 = 4 := by decide +kernel
theorem a2 : (s22.ans 0 2).ok = false := by decide +kernel
theorem a3 : (s22.ans 0 3).val = 8 ∧ (s22.ans 0 3).ok = true := by decide +kernel
end Exam

theorem exam_play (v : World) (g : Nat) (R : IsRow v g 6 6 (pfr 2)) (hgl : g < v.heap.size) : Calls Try.prog 25 #[(⟨0, 0, 0, 0, 0, 2⟩ : Shp).val, .slice (some ⟨g, 0, none⟩) 6 6, .slice (some ⟨v.heap.size + 1, 0, none⟩) 1 1, .slice none 0 0, .int .i64 100]
    ((v.alloc (.cells #[.int .i64 1, .int .i64 0, .int .i64 0, .int .i64 0, .int .u64 7, .int .i64 1, .int .i64 0, .int .i64 0, .int .i64 0, .int .u64 8, .int .i64 1, .int .i64 0, .int .i64 0, .int .i64 0, .int .u64 9, .int .i64 2, .int .i64 0, .int .i64 0, .int .i64 0, .int .u64 0] 45)).alloc (.cells #[.slice (some ⟨v.heap.size, 0, none⟩) 4 4] 43)) (LAll kPile 6 ((v.alloc (.cells #[.int .i64 1, .int .i64 0, .int .i64 0, .int .i64 0, .int .u64 7, .int .i64 1, .int .i64 0, .int .i64 0, .int .i64 0, .int .u64 8, .int .i64 1, .int .i64 0, .int .i64 0, .int .i64 0, .int .u64 9, .int .i64 2, .int .i64 0, .int .i64 0, .int .i64 0, .int .u64 0] 45)).alloc (.cells #[.slice (some ⟨v.heap.size, 0, none⟩) 4 4] 43)) Exam.P0 (pfr 2) 100) := by
  have B0 : Below v.heap.size v ((v.alloc (.cells #[.int .i64 1, .int .i64 0, .int .i64 0, .int .i64 0, .int .u64 7, .int .i64 1, .int .i64 0, .int .i64 0, .int .i64 0, .int .u64 8, .int .i64 1, .int .i64 0, .int .i64 0, .int .i64 0, .int .u64 9, .int .i64 2, .int .i64 0, .int .i64 0, .int .i64 0, .int .u64 0] 45)).alloc (.cells #[.slice (some ⟨v.heap.size, 0, none⟩) 4 4] 43)) := ((Below.refl _ v).alloc (Nat.le_refl _) _).alloc (by simp) _
  have R1 := (row_arr v #[.int .i64 1, .int .i64 0, .int .i64 0, .int .i64 0, .int .u64 7, .int .i64 1, .int .i64 0, .int .i64 0, .int .i64 0, .int .u64 8, .int .i64 1, .int .i64 0, .int .i64 0, .int .i64 0, .int .u64 9, .int .i64 2, .int .i64 0, .int .i64 0, .int .i64 0, .int .u64 0] 45).alloc (.cells #[.slice (some ⟨v.heap.size, 0, none⟩) 4 4] 43)
  have R3 := row_arr (v.alloc (.cells #[.int .i64 1, .int .i64 0, .int .i64 0, .int .i64 0, .int .u64 7, .int .i64 1, .int .i64 0, .int .i64 0, .int .i64 0, .int .u64 8, .int .i64 1, .int .i64 0, .int .i64 0, .int .i64 0, .int .u64 9, .int .i64 2, .int .i64 0, .int .i64 0, .int .i64 0, .int .u64 0] 45)) #[.slice (some ⟨v.heap.size, 0, none⟩) 4 4] 43
  simp only [World.size_alloc] at R1 R3
  refine play_all (sh := ⟨0, 0, 0, 0, 0, 2⟩) (P := Exam.P0) (f := pfr 2) (most := 100) (want := 6) (by decide) (by decide) (by decide) ?_ (fun i _ => pfr_bounds (by decide) i) ?_ (by decide) ?_ (fun h _ j _ => ?_)
  · exact (R.sees.below B0 (Nat.le_refl _)).mono (by simp; omega)
  · intro h hh
    have : h < 1 := hh
    match h, this with
    | 0, _ =>
      refine ⟨v.heap.size + 1, 0, some ⟨v.heap.size, 0, none⟩, 4, rfl, R3.lt, R3.cell (i := 0) (by simp), ?_⟩
      intro i hi
      refine ⟨v.heap.size, 0, rfl, R1.lt, fun q hq => ?_⟩
      have : i < 4 := hi
      match i, this, q, hq with
      | 0, _, 0, _ => exact R1.cell (i := 0) (by decide)
      | 0, _, 1, _ => exact R1.cell (i := 1) (by decide)
      | 0, _, 2, _ => exact R1.cell (i := 2) (by decide)
      | 0, _, 3, _ => exact R1.cell (i := 3) (by decide)
      | 0, _, 4, _ => exact R1.cell (i := 4) (by decide)
      | 1, _, 0, _ => exact R1.cell (i := 5) (by decide)
      | 1, _, 1, _ => exact R1.cell (i := 6) (by decide)
      | 1, _, 2, _ => exact R1.cell (i := 7) (by decide)
      | 1, _, 3, _ => exact R1.cell (i := 8) (by decide)
      | 1, _, 4, _ => exact R1.cell (i := 9) (by decide)
      | 2, _, 0, _ => exact R1.cell (i := 10) (by decide)
      | 2, _, 1, _ => exact R1.cell (i := 11) (by decide)
      | 2, _, 2, _ => exact R1.cell (i := 12) (by decide)
      | 2, _, 3, _ => exact R1.cell (i := 13) (by decide)
      | 2, _, 4, _ => exact R1.cell (i := 14) (by decide)
      | 3, _, 0, _ => exact R1.cell (i := 15) (by decide)
      | 3, _, 1, _ => exact R1.cell (i := 16) (by decide)
      | 3, _, 2, _ => exact R1.cell (i := 17) (by decide)
      | 3, _, 3, _ => exact R1.cell (i := 18) (by decide)
      | 3, _, 4, _ => exact R1.cell (i := 19) (by decide)
  · intro j hj
    exact absurd hj (Nat.not_lt_zero j)
  · simp only [Exam.P0, Jb.wf]
    repeat' split
    all_goals decide

set_option maxHeartbeats 4000000 in
theorem awake_any (w : World) : Calls Try.prog 23 #[] w fun e w' => e = .returned (.bool true) ∧ Below w.heap.size w w' := by
  have FR := hide (fun w' : World => fresh_ok w' ⟨0, 0, 0, 0, 0, 2⟩ (by decide) (by decide) (want := 6) (r := 2) (by decide) (by decide))
  have EX := hide exam_play
  simp only [Shp.val] at FR EX
  obtain ⟨W0, hW0⟩ : ∃ W0, w.alloc (.cells #[.int .i64 0, .int .i64 0, .int .i64 0, .int .i64 0, .int .i64 0, .int .i64 2] 23) = W0 := ⟨_, rfl⟩
  have b0 : Below w.heap.size w W0 := by rw [← hW0]; exact (Below.refl _ w).alloc (Nat.le_refl _) _
  have R0 : W0.rowIs w.heap.size 23 6 (fun i => (#[Value.int .i64 0, .int .i64 0, .int .i64 0, .int .i64 0, .int .i64 0, .int .i64 2]).getD i undef) := by rw [← hW0]; exact row_arr w _ _
  have keep : Hid (∀ w' : World, Below W0.heap.size W0 w' → Below w.heap.size w w' ∧ w.heap.size < w'.heap.size ∧ w'.cell? ⟨w.heap.size, 0, none⟩ = some (.int .i64 0) ∧ w'.cell? ⟨w.heap.size, 1, none⟩ = some (.int .i64 0) ∧ w'.cell? ⟨w.heap.size, 2, none⟩ = some (.int .i64 0) ∧ w'.cell? ⟨w.heap.size, 3, none⟩ = some (.int .i64 0) ∧ w'.cell? ⟨w.heap.size, 4, none⟩ = some (.int .i64 0) ∧ w'.cell? ⟨w.heap.size, 5, none⟩ = some (.int .i64 2)) := fun w' hb => by
    have r := R0.of_block (hb.block w.heap.size R0.lt)
    exact ⟨b0.trans (hb.mono b0.size), r.lt, r.cell (i := 0) (by decide), r.cell (i := 1) (by decide), r.cell (i := 2) (by decide), r.cell (i := 3) (by decide), r.cell (i := 4) (by decide), r.cell (i := 5) (by decide)⟩
  obtain ⟨_, l0, c0, c1, c2, c3, c4, c5⟩ := keep.out W0 (Below.refl _ _)
  clear b0 R0
  go_enter Try.func23, Try.ntmps23
  go_wp2_with fail
  refine (FR.out _).mono ?_
  rintro e w2 ⟨g, rfl, hr2, hg2, hgr⟩
  have B2 := hide (below_of_grown_none hgr W0.heap.size (Nat.le_refl _))
  have HR2 := hide hr2
  clear hgr hr2 c0 c1 c2 c3 c4 c5 hW0
  obtain ⟨bw2, l2, c0, c1, c2, c3, c4, c5⟩ := keep.out w2 B2.out
  have HB2 := hide bw2
  clear bw2
  go_wp2_with fail
  refine (EX.out w2 g HR2.out HR2.out.lt).mono ?_
  rintro e w3 ⟨hb, hcase⟩
  have BX : Below w2.heap.size w2 ((w2.alloc (.cells #[.int .i64 1, .int .i64 0, .int .i64 0, .int .i64 0, .int .u64 7, .int .i64 1, .int .i64 0, .int .i64 0, .int .i64 0, .int .u64 8, .int .i64 1, .int .i64 0, .int .i64 0, .int .i64 0, .int .u64 9, .int .i64 2, .int .i64 0, .int .i64 0, .int .i64 0, .int .u64 0] 45)).alloc (.cells #[.slice (some ⟨w2.heap.size, 0, none⟩) 4 4] 43)) := ((Below.refl w2.heap.size w2).alloc (Nat.le_refl _) _).alloc (by simp) _
  have BB := hide (HB2.out.trans ((BX.trans (hb.mono (by simp; omega))).mono (by omega)))
  clear hb BX c0 c1 c2 c3 c4 c5
  rcases hcase with ⟨er, hle, rfl⟩ | ⟨_, hF, hok, v, rfl, blk, c, g', sv, rfl, H, G, GS, R, hg, hne⟩
  · refine absurd ⟨?_, ?_⟩ (show ¬ (Fine Exam.P0 100 ∧ AllOk kPile Exam.P0) from by rcases hle with ⟨h, _⟩ | ⟨_, h⟩; exact absurd rfl h; exact h.not)
    · refine ⟨by decide, ?_, by decide, by decide, by decide⟩
      rintro (h | ⟨h, _, h2⟩)
      · exact absurd h (by decide)
      · have h3 : 256 < 4 := h2
        omega
    · intro h hh j hj
      have : h < 1 := hh
      match h, this with
      | 0, _ =>
        have : j < 4 := hj
        match j, this with
        | 0, _ => decide
        | 1, _ => decide
        | 2, _ => decide
        | 3, _ => decide
  · have hst : runSt Exam.P0 (st0 kPile Exam.P0 (pfr 2)) (Int.toNat 100) = Exam.s22 := rfl
    rw [hst] at G GS R ⊢
    rw [Exam.e22]
    obtain ⟨b, cap, rfl, hbl, _, hcs⟩ := grows_cell GS H (stepCells_length _ _) (by rw [Exam.k22]; decide)
    obtain ⟨A, eA, hA⟩ := G.answers
    have a0 := hA 0 (by decide)
    rw [Exam.d22] at a0
    obtain ⟨b', cap', eA0, hbl', _, hcs'⟩ := grows_cell a0 H (ansCells_length _ _) (by decide)
    have ak2 := hcs' _ _ (ansCells_get (Exam.s22.ans 0) 4 2 0 (by decide) (by decide))
    have ac := hcs' _ _ (ansCells_get (Exam.s22.ans 0) 4 3 1 (by decide) (by decide))
    have ak := hcs' _ _ (ansCells_get (Exam.s22.ans 0) 4 3 0 (by decide) (by decide))
    simp only [Ans.cell, Exam.a2, Exam.a3.1, Exam.a3.2] at ac ak ak2
    have ah := H.cell eA (i := 0) (show 0 < 1 by decide)
    simp only [eA0] at ah
    have la := H.lt eA
    rw [Exam.k22]
    have n1 : Exam.P0.n = 6 := rfl
    have n2 : Exam.P0.nh = 1 := rfl
    rw [n1, n2]
    obtain ⟨ba, hba⟩ : ∃ ba, blk .answers = ba := ⟨_, rfl⟩
    rw [hba] at ah la ⊢
    simp only [Nat.zero_mul, Nat.zero_add, Nat.reduceMul, Nat.reduceAdd] at ac ak ak2
    clear H G GS R hne hcs hcs' hA a0 hok hst hF
    simp only [decide_true]
    go_wp2_with fail
    go_ret
    exact ⟨rfl, BB.out.alloc (by have := BB.out.size; omega) _⟩
end Pile
end Go.Proofs.Ytbjlpmahomjgjaa
