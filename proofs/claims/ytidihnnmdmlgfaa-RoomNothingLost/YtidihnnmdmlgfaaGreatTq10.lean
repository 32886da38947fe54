/-
  Lemmas: RGood.
-/
import Derived.Test.YtidihnnmdmlgfaaGreatTq08
import Derived.Test.YtidihnnmdmlgfaaGreatTq09
import Derived.Test.YtidihnnmdmlgfaaGreatTq05
import Derived.Deep.RegionHeld
import Derived.BigRegion
namespace Go.Proofs.YtidihnnmdmlgfaaGreat
set_option maxHeartbeats 8000000
open Go.RowKit
set_option linter.unusedVariables false
set_option linter.unusedSimpArgs false
set_option maxRecDepth 20000
section
open Beg
def IsTk (cs : List Value) : Prop := cs.length = 28 ∧ ∀ v ∈ cs, v.oneCell' = true
def rv (sh : Shp) (P : Par) (blk : Rl → Nat) (capw : Nat) (vh sv : Value) (la : Int) : Value :=
  .agg (runCells sh (.slice (some ⟨blk .words, 0, none⟩) P.n capw) vh (sl (blk .tasks) P.nh) (sl (blk .going) P.nh) (sl (blk .run) P.nh) (sl (blk .mem) P.nh) sv (sl (blk .answers) P.nh) la).toArray
theorem Grows.isSlice' {blk : Rl → Nat} {c : Rl → Option Row} {r : Rl} {e : TypeId} {sz k : Nat} {xs : List Value} {v : Value} (h : Grows blk c r e sz k xs v) : ∃ ao cap, v = .slice ao k cap := by
  rcases h with ⟨rfl, rfl, _⟩ | ⟨cap, F, rfl, _⟩
  · exact ⟨_, _, rfl⟩
  · exact ⟨_, _, rfl⟩
variable {K : Kd} {rep : List Value → K.σ → Prop} {P : Par} {blk : Rl → Nat} {c : Rl → Option Row} {st : St K} {un : Nat → Bool} {capw : Nat} {sv : Value} {w : World} {base B : Nat} {aoh aos : Option Addr} {caph caps : Nat} {sh : Shp} {la : Int}
end
end Go.Proofs.YtidihnnmdmlgfaaGreat
