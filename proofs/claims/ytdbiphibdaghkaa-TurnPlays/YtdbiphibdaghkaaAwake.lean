/-
  awake: the chapter's example through the program.
-/
import Derived.Test.YtdbiphibdaghkaaActs
namespace Go.Proofs.Ytdbiphibdaghkaa
namespace OfActs
open Go.RowKit
set_option linter.unusedVariables false
set_option linter.unusedSimpArgs false
set_option maxRecDepth 20000

/-- One cell of what a row that grows holds. -/
theorem grows_cell {blk : Rl → Nat} {c : Rl → Option Row} {r : Rl} {e : TypeId} {sz k : Nat} {xs : List Value} {v : Value} {w : World} {base : Nat} (h : Grows blk c r e sz k xs v) (H : Has w base blk c) (hl : xs.length = k * sz) (hk : 0 < k) :
    ∃ b cap, v = .slice (some ⟨b, 0, none⟩) k cap ∧ b < w.heap.size ∧ base ≤ b ∧ ∀ i u, xs[i]? = some u → w.cell? ⟨b, i, none⟩ = some u := by
  rcases h with ⟨rfl, _⟩ | ⟨cap, F, rfl, hc, hkc, hcm, hp⟩
  · omega
  · refine ⟨blk r, cap, rfl, H.lt hc, H.new _ _ hc, fun i u hu => ?_⟩
    have hi : i < xs.length := by rcases Nat.lt_or_ge i xs.length with l | l; exact l; rw [List.getElem?_eq_none l] at hu; cases hu
    have hlt : i < cap * sz := by have := Nat.mul_le_mul_right sz hkc; omega
    rw [H.cell hc hlt]
    show some (F i) = _
    rw [hp i u hu]

theorem stepCells_get (s : Nat → Stp) (k j i : Nat) (hj : j < k) (hi : i < 6) : (stepCells s k)[j * 6 + i]? = some ((s j).cell i) := by
  induction k with
  | zero => omega
  | succ k ih =>
    simp only [stepCells]
    by_cases e : j = k
    · subst e
      rw [List.getElem?_append_right (by rw [stepCells_length]; omega), stepCells_length, show j * 6 + i - j * 6 = i by omega]
      match i, hi with
      | 0, _ | 1, _ | 2, _ | 3, _ | 4, _ | 5, _ => rfl
    · rw [List.getElem?_append_left (by rw [stepCells_length]; omega)]
      exact ih (by omega)
def Ans.cell (x : Ans) (i : Nat) : Value := match i with | 0 => .bool x.ok | _ => .int .u64 x.val
theorem ansCells_get (a : Nat → Ans) (k j i : Nat) (hj : j < k) (hi : i < 2) : (ansCells a k)[j * 2 + i]? = some (Ans.cell (a j) i) := by
  induction k with
  | zero => omega
  | succ k ih =>
    simp only [ansCells]
    by_cases e : j = k
    · subst e
      rw [List.getElem?_append_right (by rw [ansCells_length]; omega), ansCells_length, show j * 2 + i - j * 2 = i by omega]
      match i, hi with
      | 0, _ | 1, _ => rfl
    · rw [List.getElem?_append_left (by rw [ansCells_length]; omega)]
      exact ih (by omega)

theorem row_arr (w : World) (arr : Array Value) (t : TypeId) : (w.alloc (.cells arr t)).rowIs w.heap.size t arr.size (fun i => arr.getD i undef) :=
  World.rowIs_alloc w arr t _ (fun i hi => by simp [Array.getD, hi])

theorem exam_acts (w : World) : Calls Try.prog 11 #[.slice (some ⟨w.heap.size + 1, 0, none⟩) 1 1, .slice (some ⟨w.heap.size + 1 + 1, 0, none⟩) 2 2, .slice (some ⟨w.heap.size + 1 + 1 + 1, 0, none⟩) 3 3, .int .i64 100]
    ((((w.alloc (.cells #[.int .i64 4, .int .i64 0, .int .i64 0, .int .i64 0, .int .u64 1, .int .i64 4, .int .i64 0, .int .i64 0, .int .i64 0, .int .u64 1, .int .i64 4, .int .i64 0, .int .i64 0, .int .i64 0, .int .u64 1] 54)).alloc (.cells #[.int .u64 0] 43)).alloc (.cells #[.slice (some ⟨w.heap.size, 0, none⟩) 3 3, .slice (some ⟨w.heap.size, 0, none⟩) 3 3] 52)).alloc (.cells #[.int .i64 1, .int .i64 (-1), .int .i64 2] 3)) (RanB ((((w.alloc (.cells #[.int .i64 4, .int .i64 0, .int .i64 0, .int .i64 0, .int .u64 1, .int .i64 4, .int .i64 0, .int .i64 0, .int .i64 0, .int .u64 1, .int .i64 4, .int .i64 0, .int .i64 0, .int .i64 0, .int .u64 1] 54)).alloc (.cells #[.int .u64 0] 43)).alloc (.cells #[.slice (some ⟨w.heap.size, 0, none⟩) 3 3, .slice (some ⟨w.heap.size, 0, none⟩) 3 3] 52)).alloc (.cells #[.int .i64 1, .int .i64 (-1), .int .i64 2] 3)) Exam.P0 (fun _ => 0) 100) := by
  have R0 := ((((row_arr w #[.int .i64 4, .int .i64 0, .int .i64 0, .int .i64 0, .int .u64 1, .int .i64 4, .int .i64 0, .int .i64 0, .int .i64 0, .int .u64 1, .int .i64 4, .int .i64 0, .int .i64 0, .int .i64 0, .int .u64 1] 54).alloc (.cells #[.int .u64 0] 43)).alloc (.cells #[.slice (some ⟨w.heap.size, 0, none⟩) 3 3, .slice (some ⟨w.heap.size, 0, none⟩) 3 3] 52)).alloc (.cells #[.int .i64 1, .int .i64 (-1), .int .i64 2] 3)).alloc (.cells #[.slice none 0 0, .slice none 0 0, .bool false] 28)
  have R1 := (((row_arr (w.alloc (.cells #[.int .i64 4, .int .i64 0, .int .i64 0, .int .i64 0, .int .u64 1, .int .i64 4, .int .i64 0, .int .i64 0, .int .i64 0, .int .u64 1, .int .i64 4, .int .i64 0, .int .i64 0, .int .i64 0, .int .u64 1] 54)) #[.int .u64 0] 43).alloc (.cells #[.slice (some ⟨w.heap.size, 0, none⟩) 3 3, .slice (some ⟨w.heap.size, 0, none⟩) 3 3] 52)).alloc (.cells #[.int .i64 1, .int .i64 (-1), .int .i64 2] 3)).alloc (.cells #[.slice none 0 0, .slice none 0 0, .bool false] 28)
  have R2 := ((row_arr ((w.alloc (.cells #[.int .i64 4, .int .i64 0, .int .i64 0, .int .i64 0, .int .u64 1, .int .i64 4, .int .i64 0, .int .i64 0, .int .i64 0, .int .u64 1, .int .i64 4, .int .i64 0, .int .i64 0, .int .i64 0, .int .u64 1] 54)).alloc (.cells #[.int .u64 0] 43)) #[.slice (some ⟨w.heap.size, 0, none⟩) 3 3, .slice (some ⟨w.heap.size, 0, none⟩) 3 3] 52).alloc (.cells #[.int .i64 1, .int .i64 (-1), .int .i64 2] 3)).alloc (.cells #[.slice none 0 0, .slice none 0 0, .bool false] 28)
  have R3 := (row_arr (((w.alloc (.cells #[.int .i64 4, .int .i64 0, .int .i64 0, .int .i64 0, .int .u64 1, .int .i64 4, .int .i64 0, .int .i64 0, .int .i64 0, .int .u64 1, .int .i64 4, .int .i64 0, .int .i64 0, .int .i64 0, .int .u64 1] 54)).alloc (.cells #[.int .u64 0] 43)).alloc (.cells #[.slice (some ⟨w.heap.size, 0, none⟩) 3 3, .slice (some ⟨w.heap.size, 0, none⟩) 3 3] 52)) #[.int .i64 1, .int .i64 (-1), .int .i64 2] 3).alloc (.cells #[.slice none 0 0, .slice none 0 0, .bool false] 28)
  simp only [World.size_alloc] at R1 R2 R3
  refine acts_run (P := Exam.P0) (f := fun _ => 0) (most := 100) (play_run (P := Exam.P0) ?_ (fun i _ => by omega) (by decide) ?_ ?_ ?_ (by decide) 100 (by decide) (fun h _ j _ => by simp [Exam.P0, Jb.wf]))
  · intro j hj
    obtain rfl : j = 0 := by have : j < 1 := hj; omega
    exact ⟨w.heap.size + 1, 0, rfl, R1.lt, R1.cell (i := 0) (by decide)⟩
  · intro h hh
    refine ⟨w.heap.size + 1 + 1, 0, some ⟨w.heap.size, 0, none⟩, 3, rfl, R2.lt, ?_, ?_⟩
    · have : h < 2 := hh
      match h, this with
      | 0, _ => exact R2.cell (i := 0) (by simp)
      | 1, _ => exact R2.cell (i := 1) (by simp)
    · intro i hi
      refine ⟨w.heap.size, 0, rfl, R0.lt, fun q hq => ?_⟩
      have : i < 3 := hi
      match i, this, q, hq with
      | 0, _, 0, _ => exact R0.cell (i := 0) (by decide)
      | 0, _, 1, _ => exact R0.cell (i := 1) (by decide)
      | 0, _, 2, _ => exact R0.cell (i := 2) (by decide)
      | 0, _, 3, _ => exact R0.cell (i := 3) (by decide)
      | 0, _, 4, _ => exact R0.cell (i := 4) (by decide)
      | 1, _, 0, _ => exact R0.cell (i := 5) (by decide)
      | 1, _, 1, _ => exact R0.cell (i := 6) (by decide)
      | 1, _, 2, _ => exact R0.cell (i := 7) (by decide)
      | 1, _, 3, _ => exact R0.cell (i := 8) (by decide)
      | 1, _, 4, _ => exact R0.cell (i := 9) (by decide)
      | 2, _, 0, _ => exact R0.cell (i := 10) (by decide)
      | 2, _, 1, _ => exact R0.cell (i := 11) (by decide)
      | 2, _, 2, _ => exact R0.cell (i := 12) (by decide)
      | 2, _, 3, _ => exact R0.cell (i := 13) (by decide)
      | 2, _, 4, _ => exact R0.cell (i := 14) (by decide)
  · rintro (h | ⟨h, _, h2⟩)
    · exact absurd h (by decide)
    · have h3 : 256 < 3 := h2
      omega
  · intro j hj
    refine ⟨w.heap.size + 1 + 1 + 1, 0, rfl, R3.lt, ?_⟩
    have : j < 3 := hj
    match j, this with
    | 0, _ => exact R3.cell (i := 0) (by decide)
    | 1, _ => exact R3.cell (i := 1) (by decide)
    | 2, _ => exact R3.cell (i := 2) (by decide)

set_option maxHeartbeats 2000000 in
theorem awake_any (w : World) : Calls Try.prog 9 #[] w fun e w' => e = .returned (.bool true) ∧ Below w.heap.size w w' := by
  go_enter Try.func9, Try.ntmps9
  go_wp2_with fail
  refine (exam_acts w).mono ?_
  rintro e w1 ⟨hb, hcase⟩
  have B0 : Below w.heap.size w ((((w.alloc (.cells #[.int .i64 4, .int .i64 0, .int .i64 0, .int .i64 0, .int .u64 1, .int .i64 4, .int .i64 0, .int .i64 0, .int .i64 0, .int .u64 1, .int .i64 4, .int .i64 0, .int .i64 0, .int .i64 0, .int .u64 1] 54)).alloc (.cells #[.int .u64 0] 43)).alloc (.cells #[.slice (some ⟨w.heap.size, 0, none⟩) 3 3, .slice (some ⟨w.heap.size, 0, none⟩) 3 3] 52)).alloc (.cells #[.int .i64 1, .int .i64 (-1), .int .i64 2] 3)) := ((((Below.refl w.heap.size w).alloc (Nat.le_refl _) _).alloc (by simp) _).alloc (by simp; omega) _).alloc (by simp; omega) _
  have BB := hide (B0.trans (hb.mono (by simp; omega)))
  clear hb B0
  rcases hcase with ⟨hok, v, rfl, blk, c, g, sv, rfl, H, G, GS, R, hg, hne⟩ | ⟨er, hfe, rfl⟩
  · have hst : runSt Exam.P0 (st0 kAct Exam.P0 (fun _ => 0)) 100 = Exam.s6 := Exam.r100
    rw [hst] at G GS R ⊢
    rw [Exam.e6]
    obtain ⟨b, cap, rfl, hbl, _, hcs⟩ := grows_cell GS H (stepCells_length _ _) (by rw [Exam.k6]; decide)
    have c0 := hcs _ _ (stepCells_get Exam.s6.s Exam.s6.k 0 0 (by rw [Exam.k6]; decide) (by decide))
    have c1 := hcs _ _ (stepCells_get Exam.s6.s Exam.s6.k 1 0 (by rw [Exam.k6]; decide) (by decide))
    have c2 := hcs _ _ (stepCells_get Exam.s6.s Exam.s6.k 2 0 (by rw [Exam.k6]; decide) (by decide))
    simp only [Stp.cell, Exam.h6.1, Exam.h6.2.1, Exam.h6.2.2] at c0 c1 c2
    obtain ⟨A, eA, hA⟩ := G.answers
    have a1 := hA 1 (by decide)
    rw [Exam.d6.2] at a1
    obtain ⟨b', cap', eA1, hbl', _, hcs'⟩ := grows_cell a1 H (ansCells_length _ _) (by decide)
    have ac := hcs' _ _ (ansCells_get (Exam.s6.ans 1) 3 1 1 (by decide) (by decide))
    simp only [Ans.cell, Exam.a6] at ac
    have ah := H.cell eA (i := 1) (show 1 < 2 by decide)
    simp only [eA1] at ah
    have la := H.lt eA
    have wc := R.cell (i := 0) (by decide)
    rw [Exam.w6] at wc
    have lg := R.lt
    rw [Exam.k6]
    have n1 : Exam.P0.n = 1 := rfl
    have n2 : Exam.P0.nh = 2 := rfl
    rw [n1, n2]
    obtain ⟨ba, hba⟩ : ∃ ba, blk .answers = ba := ⟨_, rfl⟩
    rw [hba] at ah la ⊢
    clear H G GS R hne hcs hcs' hA a1 hok
    go_wp2_with fail
    go_ret
    exact ⟨rfl, BB.out.alloc (by have := BB.out.size; omega) _⟩
  · exact absurd (fun h _ j _ => rfl) hfe.not
end OfActs
end Go.Proofs.Ytdbiphibdaghkaa
