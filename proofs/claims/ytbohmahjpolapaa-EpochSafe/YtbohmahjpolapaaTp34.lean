/-
  Lemmas: EpochST.
-/
import Derived.Test.YtbohmahjpolapaaTp33
/-
  EpochSafe: the law's rows as they are made, and a job's steps as they are seen.
-/
namespace Go.Proofs.Ytbohmahjpolapaa
open Go.RowKit
set_option linter.unusedVariables false
set_option linter.unusedSimpArgs false
set_option maxRecDepth 20000
namespace Epoch

theorem infoLS : (Try.prog.info? 30).map (fun i => (i.zero.map Value.cells, i.size, i.bytes)) = some (some #[.slice none 0 0], 1, 24) := by kernel_rfl

/-- The world behind the five makes. -/
abbrev mk5 (w : World) (r : Nat) : World := ((((w.alloc (.cells (madeCells #[.int .i64 0] 8) 3)).alloc (.cells (madeCells #[.int .i64 0] r) 3)).alloc (.cells (madeCells #[.int .i64 0] 8) 3)).alloc (.cells (madeCells #[.int .i64 0] 8) 3)).alloc (.cells (madeCells #[.slice none 0 0] 8) 30)

theorem mk5_below (w : World) (r : Nat) : Below w.heap.size w (mk5 w r) :=
  (((((Below.refl _ w).alloc (Nat.le_refl _) _).alloc (by simp only [World.size_alloc]; omega) _).alloc (by simp only [World.size_alloc]; omega) _).alloc (by simp only [World.size_alloc]; omega) _).alloc (by simp only [World.size_alloc]; omega) _

def lw0 : Lw := ⟨fun _ => 0, fun _ => 0, fun _ => 0, fun _ => 0, fun _ _ => default⟩

theorem lm_start (w : World) (r : Nat) : ∃ blk c, Lm (mk5 w r) w.heap.size w.heap.size (w.heap.size + 1) (w.heap.size + 2) (w.heap.size + 3) (w.heap.size + 4) r lw0 (fun _ => 0) (fun _ => .slice none 0 0) blk c := by
  have r7 := ((((World.rowIs_made w (.int .i64 0) 8 3).alloc (.cells (madeCells #[.int .i64 0] r) 3)).alloc (.cells (madeCells #[.int .i64 0] 8) 3)).alloc (.cells (madeCells #[.int .i64 0] 8) 3)).alloc (.cells (madeCells #[.slice none 0 0] 8) 30)
  have r8 := (((World.rowIs_made (w.alloc (.cells (madeCells #[.int .i64 0] 8) 3)) (.int .i64 0) r 3).alloc (.cells (madeCells #[.int .i64 0] 8) 3)).alloc (.cells (madeCells #[.int .i64 0] 8) 3)).alloc (.cells (madeCells #[.slice none 0 0] 8) 30)
  have r9 := ((World.rowIs_made ((w.alloc (.cells (madeCells #[.int .i64 0] 8) 3)).alloc (.cells (madeCells #[.int .i64 0] r) 3)) (.int .i64 0) 8 3).alloc (.cells (madeCells #[.int .i64 0] 8) 3)).alloc (.cells (madeCells #[.slice none 0 0] 8) 30)
  have r10 := (World.rowIs_made (((w.alloc (.cells (madeCells #[.int .i64 0] 8) 3)).alloc (.cells (madeCells #[.int .i64 0] r) 3)).alloc (.cells (madeCells #[.int .i64 0] 8) 3)) (.int .i64 0) 8 3).alloc (.cells (madeCells #[.slice none 0 0] 8) 30)
  have r11 := World.rowIs_made ((((w.alloc (.cells (madeCells #[.int .i64 0] 8) 3)).alloc (.cells (madeCells #[.int .i64 0] r) 3)).alloc (.cells (madeCells #[.int .i64 0] 8) 3)).alloc (.cells (madeCells #[.int .i64 0] 8) 3)) (.slice none 0 0) 8 30
  simp only [World.size_alloc] at r8 r9 r10 r11
  refine ⟨fun x => match x with | .mem => w.heap.size | .words => w.heap.size + 1 | .run => w.heap.size + 2 | .tasks => w.heap.size + 3 | .answers => w.heap.size + 4 | _ => 0, fun x => match x with | .mem => some ⟨3, 8, fun _ => .int .i64 0⟩ | .words => some ⟨3, r, fun _ => .int .i64 0⟩ | .run => some ⟨3, 8, fun _ => .int .i64 0⟩ | .tasks => some ⟨3, 8, fun _ => .int .i64 0⟩ | .answers => some ⟨30, 8, fun _ => .slice none 0 0⟩ | _ => none, ⟨?_, ?_, ?_⟩, rfl, rfl, rfl, rfl, rfl, rfl, rfl, rfl, rfl, rfl, fun h hh => .inl ⟨rfl, rfl, rfl⟩⟩
  · intro a b x x' e e' h
    cases a <;> cases b <;> simp at e e' h <;> first | rfl | omega
  · intro a x e
    cases a <;> simp at e <;> subst e
    · exact r7
    · exact r8
    · exact r9
    · exact r10
    · exact r11
  · intro a x e
    cases a <;> simp at e <;> simp

variable {w : World} {base g7 g8 g9 g10 g11 r : Nat} {L : Lw} {job : Nat → Nat} {A : Nat → Value} {blk : Rl → Nat} {c : Rl → Option Row}
/-- A job's steps, as they are seen. -/
theorem Lm.seen (h : Lm w base g7 g8 g9 g10 g11 r L job A blk c) {i nb cap n : Nat} (hi : i < 8) (hn : L.ml i = n + 1) (e : A i = .slice (some ⟨nb, 0, none⟩) (n + 1) cap) : nb < w.heap.size ∧ ∀ j, j < n + 1 → ∀ q, q < 6 → w.cell? ⟨nb, 0 + j * 6 + q, none⟩ = some ((L.md i j).cell q) := by
  have G := h.rows i hi
  rw [hn] at G
  obtain ⟨b, cap', e', hl, _, hc⟩ := grows_cell G h.has (stepCells_length _ _) (by omega)
  rw [e] at e'
  injection e' with e1 _ _
  injection e1 with e1
  injection e1 with e1 _ _
  subst e1
  refine ⟨hl, fun j hj q hq => ?_⟩
  rw [Nat.zero_add]
  exact hc _ _ (stepCells_get (L.md i) (n + 1) j q hj hq)
end Epoch
end Go.Proofs.Ytbohmahjpolapaa
