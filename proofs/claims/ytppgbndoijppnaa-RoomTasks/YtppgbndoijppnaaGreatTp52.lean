/-
  Lemmas: L17Ran.
-/
import Derived.Test.YtppgbndoijppnaaGreatTp51
namespace Go.Proofs.YtppgbndoijppnaaGreat
set_option maxHeartbeats 8000000
open Go.RowKit
set_option linter.unusedVariables false
set_option linter.unusedSimpArgs false
set_option linter.unnecessarySimpa false
set_option maxRecDepth 20000
section
namespace L17
open Beg
variable {K : Kd} {rep : List Value → K.σ → Prop} {sh : Shp} {v0 : World} {ao aoh aos : Option Addr} {cap caph caps : Nat} {P : Par} {f : Nat → Int} {most : Nat}
end L17
end
end Go.Proofs.YtppgbndoijppnaaGreat
