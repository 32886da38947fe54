/-
  Lemmas: RDone4.
-/
import Derived.Test.YtppgbndoijppnaaGreatTp12
import Derived.Deep.Cut
namespace Go.Proofs.YtppgbndoijppnaaGreat
set_option maxHeartbeats 8000000
open Go.RowKit
set_option linter.unusedVariables false
set_option linter.unusedSimpArgs false
set_option linter.unnecessarySimpa false
set_option maxRecDepth 20000
section
open Beg
variable {K : Kd} {rep : List Value → K.σ → Prop} {P : Par} {blk blk' : Rl → Nat} {c c' : Rl → Option Row} {st : St K} {un : Nat → Bool} {capw : Nat} {sv sv' : Value} {w : World} {base B : Nat} {aoh aos : Option Addr} {caph caps : Nat} {sh : Shp} {la : Int} {h : Nat} {x : Stp} {f' : Nat → Int} {cs : List Value}
end
end Go.Proofs.YtppgbndoijppnaaGreat
