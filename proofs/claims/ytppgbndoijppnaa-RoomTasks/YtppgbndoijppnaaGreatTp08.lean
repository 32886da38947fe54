/-
  Lemmas: RBegin2.
-/
import Derived.Test.YtppgbndoijppnaaGreatTp06
namespace Go.Proofs.YtppgbndoijppnaaGreat
set_option maxHeartbeats 8000000
open Go.RowKit
set_option linter.unusedVariables false
set_option linter.unusedSimpArgs false
set_option linter.unnecessarySimpa false
set_option maxRecDepth 20000
section
open Beg
theorem cell_range {w : World} {b : Nat} {t : TypeId} {cs : List Value} : (w.alloc (.cells cs.toArray t)).rangeAt w.heap.size 0 cs := by
 intro j v hv
 have := (World.rowIs_alloc' w cs.toArray t cs.length (by simp) (f := fun i => cs[i]?.getD default) (fun i hi => by simp [hi])).cell (i := j) (List.getElem?_eq_some_iff.1 hv).1
 simpa [hv] using this
theorem there_alloc_new {w : World} {t : TypeId} {cs : List Value} : (w.alloc (.cells cs.toArray t)).there w.heap.size 0 cs.length := by
 intro j hj
 have R := World.rowIs_alloc' w cs.toArray t cs.length (by simp) (f := fun i => cs[i]?.getD default) (fun i hi => by simp [hi])
 have := R.cell (i := j) hj
 exact ⟨by simp only [Nat.zero_add]; rw [this]; rfl, by simpa using R.frozen j⟩
end
end Go.Proofs.YtppgbndoijppnaaGreat
