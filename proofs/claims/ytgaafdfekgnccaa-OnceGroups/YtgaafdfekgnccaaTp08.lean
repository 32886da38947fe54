/-
  Lemmas: RBegin2.
-/
import Derived.Test.YtgaafdfekgnccaaTp05
/-
  middenref03.Begin, for every list of words and of hands.
-/
namespace Go.Proofs.Ytgaafdfekgnccaa
open Go.RowKit
set_option linter.unusedVariables false
set_option linter.unusedSimpArgs false
set_option linter.unnecessarySimpa false
set_option maxRecDepth 20000
open Beg

theorem info4r : (Try.prog.info? 4).map (fun i => (i.zero.map Value.cells, i.size, i.bytes)) = some (some #[.bool false], 1, 1) := by kernel_rfl
theorem info3r : (Try.prog.info? 3).map (fun i => (i.zero.map Value.cells, i.size, i.bytes)) = some (some #[.int .i64 0], 1, 8) := by kernel_rfl
theorem info47r : (Try.prog.info? 51).map (fun i => (i.zero.map Value.cells, i.size, i.bytes)) = some (some #[.slice none 0 0], 1, 24) := by kernel_rfl
theorem size42 : (Try.prog.info? 36).map (·.size) = some 6 := by kernel_rfl
theorem row42 : ∃ d, Try.prog.underlying 36 = some d ∧ d.isRow = true := by
  have h : (Try.prog.underlying 36).map (fun d => d.isRow) = some true := by kernel_rfl
  exact Option.map_eq_some_iff.1 h

theorem cell_range {w : World} {b : Nat} {t : TypeId} {cs : List Value} : (w.alloc (.cells cs.toArray t)).rangeAt w.heap.size 0 cs := by
  intro j v hv
  have := (World.rowIs_alloc' w cs.toArray t cs.length (by simp) (f := fun i => cs[i]?.getD default) (fun i hi => by simp [hi])).cell (i := j) (List.getElem?_eq_some_iff.1 hv).1
  simpa [hv] using this
theorem there_alloc_new {w : World} {t : TypeId} {cs : List Value} : (w.alloc (.cells cs.toArray t)).there w.heap.size 0 cs.length := by
  intro j hj
  have R := World.rowIs_alloc' w cs.toArray t cs.length (by simp) (f := fun i => cs[i]?.getD default) (fun i hi => by simp [hi])
  have := R.cell (i := j) hj
  exact ⟨by simp only [Nat.zero_add]; rw [this]; rfl, by simpa using R.frozen j⟩

end Go.Proofs.Ytgaafdfekgnccaa
