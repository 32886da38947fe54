/-
  Lemmas: WkE.
-/
import Derived.Test.YtafaiikgpooflaaTp20
/-
  Acts; the chapter's example through the program: awake.
-/
namespace Go.Proofs.Ytafaiikgpooflaa
open Go.RowKit
set_option linter.unusedVariables false
set_option linter.unusedSimpArgs false
set_option maxRecDepth 20000
namespace Exam

def P0 : Par := { n := 1, nh := 2, jn := fun _ => 3, jb := fun _ _ => ⟨4, 0, 0, 0, 1⟩, ns := 3, sched := fun i => if i = 0 then 1 else if i = 1 then -1 else 2 }
def s0 : St AcK.kAct := st0 AcK.kAct P0 (fun _ => 0)
def s1 : St AcK.kAct := stepSt P0 s0 1
def s2 : St AcK.kAct := stepSt P0 s1 1
def s3 : St AcK.kAct := stepSt P0 s2 0
def s4 : St AcK.kAct := stepSt P0 s3 1
def s5 : St AcK.kAct := stepSt P0 s4 0
def s6 : St AcK.kAct := stepSt P0 s5 0

theorem t0 : s0.turn P0 = (1 : Nat) := by decide +kernel
theorem t1 : s1.turn P0 = (1 : Nat) := by decide +kernel
theorem t2 : s2.turn P0 = (0 : Nat) := by decide +kernel
theorem t3 : s3.turn P0 = (1 : Nat) := by decide +kernel
theorem t4 : s4.turn P0 = (0 : Nat) := by decide +kernel
theorem t5 : s5.turn P0 = (0 : Nat) := by decide +kernel
theorem t6 : s6.turn P0 < 0 := by decide +kernel

theorem r1 : runSt P0 s0 1 = s1 := runSt_step (m := 0) t0
theorem r2 : runSt P0 s0 2 = s2 := by have := runSt_step (P := P0) (st := s0) (m := 1) (h := 1) (by rw [r1]; exact t1); rw [this, r1]; rfl
theorem r3 : runSt P0 s0 3 = s3 := by have := runSt_step (P := P0) (st := s0) (m := 2) (h := 0) (by rw [r2]; exact t2); rw [this, r2]; rfl
theorem r4 : runSt P0 s0 4 = s4 := by have := runSt_step (P := P0) (st := s0) (m := 3) (h := 1) (by rw [r3]; exact t3); rw [this, r3]; rfl
theorem r5 : runSt P0 s0 5 = s5 := by have := runSt_step (P := P0) (st := s0) (m := 4) (h := 0) (by rw [r4]; exact t4); rw [this, r4]; rfl
theorem r6 : runSt P0 s0 6 = s6 := by have := runSt_step (P := P0) (st := s0) (m := 5) (h := 0) (by rw [r5]; exact t5); rw [this, r5]; rfl
theorem r100 : runSt P0 s0 100 = s6 := by have := runSt_stuck (P := P0) (st := s0) (m := 6) (by rw [r6]; exact t6) 94; rw [r6] at this; exact this

theorem k6 : s6.k = 6 := by decide +kernel
theorem e6 : cnt (s6.going P0) P0.nh = 0 := by decide +kernel
theorem w6 : s6.f 0 = 6 := by decide +kernel
theorem d6 : s6.done 0 = 3 ∧ s6.done 1 = 3 := by decide +kernel
theorem h6 : (s6.s 0).hand = 1 ∧ (s6.s 1).hand = 1 ∧ (s6.s 2).hand = 0 := by decide +kernel
theorem a6 : (s6.ans 1 1).val = 1 := by decide +kernel
end Exam
namespace WkE
variable {w : World} {ao aoh aos : Option Addr} {cap caph caps : Nat} {P : Par} {f : Nat → Int} {most : Int}

def RanB (w : World) (P : Par) (f : Nat → Int) (most : Nat) (e : Ending) (w' : World) : Prop :=
  Below w.heap.size w w' ∧ ((AllOk AcK.kAct P ∧ ∃ v, e = .returned v ∧ Told AcK.kAct P (runSt P (st0 AcK.kAct P f) most) w.heap.size v w') ∨ ∃ er, FirstErr AcK.kAct P er ∧ e = .returned (errVal er))

theorem acts_run {most : Nat} (h : Calls Try.prog 6 #[.slice ao P.n cap, .slice aoh P.nh caph, .slice aos P.ns caps, .int .i64 (most : Int), .func (.func 30) #[] #[]] (w.alloc (.cells #[.slice none 0 0, .slice none 0 0, .bool false] 29)) (OfAny.Ran AcK.kAct (w.alloc (.cells #[.slice none 0 0, .slice none 0 0, .bool false] 29)) P f most)) :
    Calls Try.prog 12 #[.slice ao P.n cap, .slice aoh P.nh caph, .slice aos P.ns caps, .int .i64 (most : Int)] w (RanB w P f most) := by
  have HH := hide h
  clear h
  go_enter Try.func12, Try.ntmps12
  go_wp2_with fail
  refine HH.out.mono ?_
  rintro e w1 ⟨hb, hcase⟩
  have z0 := hb.cell (p := ⟨w.heap.size, 0, none⟩) (by simp)
  have z1 := hb.cell (p := ⟨w.heap.size, 1, none⟩) (by simp)
  have z2 := hb.cell (p := ⟨w.heap.size, 2, none⟩) (by simp)
  have y0 := hb.frozen (p := ⟨w.heap.size, 0, none⟩) (by simp)
  have y1 := hb.frozen (p := ⟨w.heap.size, 1, none⟩) (by simp)
  have y2 := hb.frozen (p := ⟨w.heap.size, 2, none⟩) (by simp)
  simp at z0 z1 z2 y0 y1 y2
  have BB := hide (((Below.refl w.heap.size w).alloc (Nat.le_refl _) (.cells #[.slice none 0 0, .slice none 0 0, .bool false] 29)).trans (hb.mono (by simp)))
  clear hb
  rcases hcase with ⟨hok, v, rfl, blk, c, g, sv, rfl, H, G, GS, R, hg, hne⟩ | ⟨er, hfe, rfl⟩
  · obtain ⟨sa, sc, hsv⟩ := GS.isSlice
    subst hsv
    simp only [World.size_alloc] at H hg
    obtain ⟨b, hb⟩ : ∃ b, decide (cnt ((runSt P (st0 AcK.kAct P f) most).going P) P.nh = 0) = b := ⟨_, rfl⟩
    rw [hb]
    obtain ⟨k, hk⟩ : ∃ k, (runSt P (st0 AcK.kAct P f) most).k = k := ⟨_, rfl⟩
    rw [hk]
    have HH2 := hide H
    have GG := hide G
    have GGS := hide GS
    have RR := hide R
    have HNE := hide hne
    have HB2 := hide hb
    have HK := hide hk
    clear H G GS R hne hb hk
    go_wp2_with fail
    go_light
    have tt := touch3 w1 w.heap.size (.slice sa k sc) (.slice (some ⟨g, 0, none⟩) P.n P.n) (.bool b)
    refine bodyPost_ret (v := .tuple #[.agg #[.slice sa k sc, .slice (some ⟨g, 0, none⟩) P.n P.n, .bool b], .slice (some ⟨blk .answers, 0, none⟩) P.nh P.nh, .int .i64 0]) ?_ rfl ⟨BB.out.trans (tt.below (fun k hk => by omega) (by have := BB.out.size; omega)), .inl ⟨hok, _, rfl, blk, c, g, .slice sa k sc, by rw [HB2.out], ?_, GG.out, by have := GGS.out; rw [HK.out] at this ⊢; exact this, ?_, by omega, HNE.out⟩⟩
    · simp [results, Try.results12, go_sem, *]
    · exact ((HH2.out.touch tt (fun r x e he => by have := HH2.out.new r x e; omega))).base_le (by omega)
    · exact RR.out.block (tt.block g RR.out.lt (fun he => by omega))
  · unfold errVal
    go_wp2_with fail
    go_light
    refine bodyPost_ret (v := errVal er) ?_ rfl ⟨((BB.out.setCell (Nat.le_refl _) _).setCell (Nat.le_refl _) _).setCell (Nat.le_refl _) _, .inr ⟨er, hfe, rfl⟩⟩
    simp [results, Try.results12, go_sem, errVal, *]
/-- One cell of what a row that grows holds. -/
theorem row_arr (w : World) (arr : Array Value) (t : TypeId) : (w.alloc (.cells arr t)).rowIs w.heap.size t arr.size (fun i => arr.getD i undef) :=
  World.rowIs_alloc w arr t _ (fun i hi => by simp [Array.getD, hi])

theorem exam_acts (w : World) : Calls Try.prog 12 #[.slice (some ⟨w.heap.size + 1, 0, none⟩) 1 1, .slice (some ⟨w.heap.size + 1 + 1, 0, none⟩) 2 2, .slice (some ⟨w.heap.size + 1 + 1 + 1, 0, none⟩) 3 3, .int .i64 100]
    ((((w.alloc (.cells #[.int .i64 4, .int .i64 0, .int .i64 0, .int .i64 0, .int .u64 1, .int .i64 4, .int .i64 0, .int .i64 0, .int .i64 0, .int .u64 1, .int .i64 4, .int .i64 0, .int .i64 0, .int .i64 0, .int .u64 1] 50)).alloc (.cells #[.int .u64 0] 26)).alloc (.cells #[.slice (some ⟨w.heap.size, 0, none⟩) 3 3, .slice (some ⟨w.heap.size, 0, none⟩) 3 3] 51)).alloc (.cells #[.int .i64 1, .int .i64 (-1), .int .i64 2] 3)) (RanB ((((w.alloc (.cells #[.int .i64 4, .int .i64 0, .int .i64 0, .int .i64 0, .int .u64 1, .int .i64 4, .int .i64 0, .int .i64 0, .int .i64 0, .int .u64 1, .int .i64 4, .int .i64 0, .int .i64 0, .int .i64 0, .int .u64 1] 50)).alloc (.cells #[.int .u64 0] 26)).alloc (.cells #[.slice (some ⟨w.heap.size, 0, none⟩) 3 3, .slice (some ⟨w.heap.size, 0, none⟩) 3 3] 51)).alloc (.cells #[.int .i64 1, .int .i64 (-1), .int .i64 2] 3)) Exam.P0 (fun _ => 0) 100) := by
  have R0 := ((((row_arr w #[.int .i64 4, .int .i64 0, .int .i64 0, .int .i64 0, .int .u64 1, .int .i64 4, .int .i64 0, .int .i64 0, .int .i64 0, .int .u64 1, .int .i64 4, .int .i64 0, .int .i64 0, .int .i64 0, .int .u64 1] 50).alloc (.cells #[.int .u64 0] 26)).alloc (.cells #[.slice (some ⟨w.heap.size, 0, none⟩) 3 3, .slice (some ⟨w.heap.size, 0, none⟩) 3 3] 51)).alloc (.cells #[.int .i64 1, .int .i64 (-1), .int .i64 2] 3)).alloc (.cells #[.slice none 0 0, .slice none 0 0, .bool false] 29)
  have R1 := (((row_arr (w.alloc (.cells #[.int .i64 4, .int .i64 0, .int .i64 0, .int .i64 0, .int .u64 1, .int .i64 4, .int .i64 0, .int .i64 0, .int .i64 0, .int .u64 1, .int .i64 4, .int .i64 0, .int .i64 0, .int .i64 0, .int .u64 1] 50)) #[.int .u64 0] 26).alloc (.cells #[.slice (some ⟨w.heap.size, 0, none⟩) 3 3, .slice (some ⟨w.heap.size, 0, none⟩) 3 3] 51)).alloc (.cells #[.int .i64 1, .int .i64 (-1), .int .i64 2] 3)).alloc (.cells #[.slice none 0 0, .slice none 0 0, .bool false] 29)
  have R2 := ((row_arr ((w.alloc (.cells #[.int .i64 4, .int .i64 0, .int .i64 0, .int .i64 0, .int .u64 1, .int .i64 4, .int .i64 0, .int .i64 0, .int .i64 0, .int .u64 1, .int .i64 4, .int .i64 0, .int .i64 0, .int .i64 0, .int .u64 1] 50)).alloc (.cells #[.int .u64 0] 26)) #[.slice (some ⟨w.heap.size, 0, none⟩) 3 3, .slice (some ⟨w.heap.size, 0, none⟩) 3 3] 51).alloc (.cells #[.int .i64 1, .int .i64 (-1), .int .i64 2] 3)).alloc (.cells #[.slice none 0 0, .slice none 0 0, .bool false] 29)
  have R3 := (row_arr (((w.alloc (.cells #[.int .i64 4, .int .i64 0, .int .i64 0, .int .i64 0, .int .u64 1, .int .i64 4, .int .i64 0, .int .i64 0, .int .i64 0, .int .u64 1, .int .i64 4, .int .i64 0, .int .i64 0, .int .i64 0, .int .u64 1] 50)).alloc (.cells #[.int .u64 0] 26)).alloc (.cells #[.slice (some ⟨w.heap.size, 0, none⟩) 3 3, .slice (some ⟨w.heap.size, 0, none⟩) 3 3] 51)) #[.int .i64 1, .int .i64 (-1), .int .i64 2] 3).alloc (.cells #[.slice none 0 0, .slice none 0 0, .bool false] 29)
  simp only [World.size_alloc] at R1 R2 R3
  refine acts_run (P := Exam.P0) (f := fun _ => 0) (most := 100) (OfAny.play_run (K := AcK.kAct) (P := Exam.P0) ?_ (fun i _ => by omega) (by decide) ?_ ?_ ?_ (by decide) 100 (by decide) (fun h _ j _ => by simp [Exam.P0, Jb.wf]) AcK.isKind (fun w' _ => AcK.makes w'))
  · intro j hj
    obtain rfl : j = 0 := by have : j < 1 := hj; omega
    exact ⟨w.heap.size + 1, 0, rfl, R1.lt, R1.cell (i := 0) (by decide)⟩
  · intro h hh
    refine ⟨w.heap.size + 1 + 1, 0, some ⟨w.heap.size, 0, none⟩, 3, rfl, R2.lt, ?_, ?_⟩
    · have : h < 2 := hh
      match h, this with
      | 0, _ => exact R2.cell (i := 0) (by simp)
      | 1, _ => exact R2.cell (i := 1) (by simp)
    · intro i hi
      refine ⟨w.heap.size, 0, rfl, R0.lt, fun q hq => ?_⟩
      have : i < 3 := hi
      match i, this, q, hq with
      | 0, _, 0, _ => exact R0.cell (i := 0) (by decide)
      | 0, _, 1, _ => exact R0.cell (i := 1) (by decide)
      | 0, _, 2, _ => exact R0.cell (i := 2) (by decide)
      | 0, _, 3, _ => exact R0.cell (i := 3) (by decide)
      | 0, _, 4, _ => exact R0.cell (i := 4) (by decide)
      | 1, _, 0, _ => exact R0.cell (i := 5) (by decide)
      | 1, _, 1, _ => exact R0.cell (i := 6) (by decide)
      | 1, _, 2, _ => exact R0.cell (i := 7) (by decide)
      | 1, _, 3, _ => exact R0.cell (i := 8) (by decide)
      | 1, _, 4, _ => exact R0.cell (i := 9) (by decide)
      | 2, _, 0, _ => exact R0.cell (i := 10) (by decide)
      | 2, _, 1, _ => exact R0.cell (i := 11) (by decide)
      | 2, _, 2, _ => exact R0.cell (i := 12) (by decide)
      | 2, _, 3, _ => exact R0.cell (i := 13) (by decide)
      | 2, _, 4, _ => exact R0.cell (i := 14) (by decide)
  · rintro (h | ⟨h, _, h2⟩)
    · exact absurd h (by decide)
    · have h3 : 256 < 3 := h2
      omega
  · intro j hj
    refine ⟨w.heap.size + 1 + 1 + 1, 0, rfl, R3.lt, ?_⟩
    have : j < 3 := hj
    match j, this with
    | 0, _ => exact R3.cell (i := 0) (by decide)
    | 1, _ => exact R3.cell (i := 1) (by decide)
    | 2, _ => exact R3.cell (i := 2) (by decide)

set_option maxHeartbeats 2000000 in
theorem awake_any (w : World) : Calls Try.prog 5 #[] w fun e w' => e = .returned (.bool true) ∧ Below w.heap.size w w' := by
  go_enter Try.func5, Try.ntmps5
  go_wp2_with fail
  refine (exam_acts w).mono ?_
  rintro e w1 ⟨hb, hcase⟩
  have B0 : Below w.heap.size w ((((w.alloc (.cells #[.int .i64 4, .int .i64 0, .int .i64 0, .int .i64 0, .int .u64 1, .int .i64 4, .int .i64 0, .int .i64 0, .int .i64 0, .int .u64 1, .int .i64 4, .int .i64 0, .int .i64 0, .int .i64 0, .int .u64 1] 50)).alloc (.cells #[.int .u64 0] 26)).alloc (.cells #[.slice (some ⟨w.heap.size, 0, none⟩) 3 3, .slice (some ⟨w.heap.size, 0, none⟩) 3 3] 51)).alloc (.cells #[.int .i64 1, .int .i64 (-1), .int .i64 2] 3)) := ((((Below.refl w.heap.size w).alloc (Nat.le_refl _) _).alloc (by simp) _).alloc (by simp; omega) _).alloc (by simp; omega) _
  have BB := hide (B0.trans (hb.mono (by simp; omega)))
  clear hb B0
  rcases hcase with ⟨hok, v, rfl, blk, c, g, sv, rfl, H, G, GS, R, hg, hne⟩ | ⟨er, hfe, rfl⟩
  · have hst : runSt Exam.P0 (st0 AcK.kAct Exam.P0 (fun _ => 0)) 100 = Exam.s6 := Exam.r100
    rw [hst] at G GS R ⊢
    rw [Exam.e6]
    obtain ⟨b, cap, rfl, hbl, _, hcs⟩ := grows_cell GS H (stepCells_length _ _) (by rw [Exam.k6]; decide)
    have c0 := hcs _ _ (stepCells_get Exam.s6.s Exam.s6.k 0 0 (by rw [Exam.k6]; decide) (by decide))
    have c1 := hcs _ _ (stepCells_get Exam.s6.s Exam.s6.k 1 0 (by rw [Exam.k6]; decide) (by decide))
    have c2 := hcs _ _ (stepCells_get Exam.s6.s Exam.s6.k 2 0 (by rw [Exam.k6]; decide) (by decide))
    simp only [Stp.cell, Exam.h6.1, Exam.h6.2.1, Exam.h6.2.2] at c0 c1 c2
    obtain ⟨A, eA, hA⟩ := G.answers
    have a1 := hA 1 (by decide)
    rw [Exam.d6.2] at a1
    obtain ⟨b', cap', eA1, hbl', _, hcs'⟩ := grows_cell a1 H (ansCells_length _ _) (by decide)
    have ac := hcs' _ _ (ansCells_get (Exam.s6.ans 1) 3 1 1 (by decide) (by decide))
    simp only [Ans.cell, Exam.a6] at ac
    have ah := H.cell eA (i := 1) (show 1 < 2 by decide)
    simp only [eA1] at ah
    have la := H.lt eA
    have wc := R.cell (i := 0) (by decide)
    rw [Exam.w6] at wc
    have lg := R.lt
    rw [Exam.k6]
    have n1 : Exam.P0.n = 1 := rfl
    have n2 : Exam.P0.nh = 2 := rfl
    rw [n1, n2]
    obtain ⟨ba, hba⟩ : ∃ ba, blk .answers = ba := ⟨_, rfl⟩
    rw [hba] at ah la ⊢
    clear H G GS R hne hcs hcs' hA a1 hok
    go_wp2_with fail
    go_ret
    exact ⟨rfl, BB.out.alloc (by have := BB.out.size; omega) _⟩
  · exact absurd (fun h _ j _ => rfl) hfe.not
end WkE
end Go.Proofs.Ytafaiikgpooflaa
