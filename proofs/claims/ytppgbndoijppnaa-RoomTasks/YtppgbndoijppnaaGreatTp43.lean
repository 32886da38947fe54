/-
  Lemmas: RoomSB.
-/
import Derived.Test.YtppgbndoijppnaaGreatTp42
import Derived.Test.YtppgbndoijppnaaGreatTp41
import Derived.Test.YtppgbndoijppnaaGreatTp26
import Derived.Test.YtppgbndoijppnaaGreatTp29
import Derived.Test.YtppgbndoijppnaaGreatTp31
namespace Go.Proofs.YtppgbndoijppnaaGreat
set_option maxHeartbeats 8000000
open Go.RowKit
set_option linter.unusedVariables false
set_option linter.unusedSimpArgs false
set_option linter.unnecessarySimpa false
set_option maxRecDepth 20000
section
namespace Rom
open Hp
end Rom
end
end Go.Proofs.YtppgbndoijppnaaGreat
