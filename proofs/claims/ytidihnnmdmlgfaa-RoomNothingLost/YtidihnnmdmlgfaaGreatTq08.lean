/-
  Lemmas: RBegin2.
-/
import Derived.Test.YtidihnnmdmlgfaaGreatTq06
namespace Go.Proofs.YtidihnnmdmlgfaaGreat
set_option maxHeartbeats 8000000
open Go.RowKit
set_option linter.unusedVariables false
set_option linter.unusedSimpArgs false
set_option linter.unnecessarySimpa false
set_option maxRecDepth 20000
section
open Beg
theorem there_alloc_new {w : World} {t : TypeId} {cs : List Value} : (w.alloc (.cells cs.toArray t)).there w.heap.size 0 cs.length := by
  intro j hj
  have R := World.rowIs_alloc' w cs.toArray t cs.length (by simp) (f := fun i => cs[i]?.getD default) (fun i hi => by simp [hi])
  have := R.cell (i := j) hj
  exact ⟨by simp only [Nat.zero_add]; rw [this]; rfl, by simpa using R.frozen j⟩
end
end Go.Proofs.YtidihnnmdmlgfaaGreat
