/-
  Lemmas: RoomSA.
-/
import Derived.Test.YtppgbndoijppnaaGreatTp40
import Derived.Test.YtppgbndoijppnaaGreatTp41
import Derived.Test.YtppgbndoijppnaaGreatTp26
import Derived.Test.YtppgbndoijppnaaGreatTp29
import Derived.Test.YtppgbndoijppnaaGreatTp31
namespace Go.Proofs.YtppgbndoijppnaaGreat
set_option maxHeartbeats 8000000
open Go.RowKit
set_option linter.unusedVariables false
set_option linter.unusedSimpArgs false
set_option linter.unnecessarySimpa false
set_option maxRecDepth 20000
section
namespace Rom
open Hp
section
variable {P : Program} {Q : Exit → Act → World → Prop} {ops : Array Oper} {ks : List (Nat × Nat)} {vals : Nat → Value} {WI : World → Prop} {a0 : Act} {i : Nat} {o : Oper}
theorem gn {j d : Nat} {b : Bool} (h : o.guard = some (j, b)) (hl : o.dst = Reg.look ks i) (hu : vals i = undef) (hd : (ops[j]?).bind (·.dst) = some d) (hj : j < i) (hp : RetN.pv ks vals j = some (d, undef)) (hds : d < a0.tmps.size) : RSq.Does P Q ops ks vals WI a0 i o ∨ RSk.Skip ops ks vals WI a0 i o := .inr (RSk.gone h hl hu hd hj hp hds)
end
end Rom
end
end Go.Proofs.YtppgbndoijppnaaGreat
