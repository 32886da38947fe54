/-
  Lemmas: Lb0, Lb, ShapeN0.
-/
import Derived.Test.YtidihnnmdmlgfaaGreatTp17
import Derived.Test.YtidihnnmdmlgfaaGreatTp12
import Derived.Test.YtidihnnmdmlgfaaGreatTp09
import Derived.Deep.RegionWith
import Derived.Deep.RegionHeld
import Derived.Deep.Light
import Derived.Laws.Bits64
import Derived.Deep.QuietTactic
import Derived.BigQuiet
import Derived.Deep.CutBlock
import Derived.Deep.CutRange
import Derived.Test.YtidihnnmdmlgfaaGreatRows
namespace Go.Proofs.YtidihnnmdmlgfaaGreat
set_option maxHeartbeats 8000000
set_option linter.unusedVariables false
set_option linter.unusedSimpArgs false
set_option maxRecDepth 20000
section
end
section
end
section
open Go
namespace Shape
structure Sh where
  o : Nat
  s : Nat
  h : Nat
  r : Nat
  k : Nat
structure Sh.Ok (x : Sh) : Prop where
  o1 : 1 ≤ x.o
  o2 : x.o ≤ 64
  s2 : x.s ≤ 4
  h1 : 1 ≤ x.h
  h2 : x.h ≤ 7
  r1 : 1 ≤ x.r
  r2 : x.r ≤ 8
  k2 : x.k ≤ 16
def bR (x : Sh) : Nat := 8 + x.h
def bK (x : Sh) : Nat := bR x + x.h * x.r
def bO (x : Sh) : Nat := bK x + x.k
def ow (x : Sh) : Nat := 3 + x.s
def size (x : Sh) : Nat := bO x + x.o * ow x
theorem sizes {x : Sh} (H : x.Ok) : x.h * x.r ≤ 56 ∧ x.o * ow x ≤ 448 ∧ 1 ≤ x.h * x.r ∧ 3 ≤ x.o * ow x ∧ size x ≤ 600 := by
  have a : x.h * x.r ≤ 7 * 8 := Nat.mul_le_mul H.h2 H.r2
  have b : x.o * ow x ≤ 64 * 7 := Nat.mul_le_mul H.o2 (by unfold ow; have := H.s2; omega)
  have c : 1 * 1 ≤ x.h * x.r := Nat.mul_le_mul H.h1 H.r1
  have d : 1 * 3 ≤ x.o * ow x := Nat.mul_le_mul H.o1 (by unfold ow; omega)
  have := H.h2
  have := H.k2
  unfold size bO bK bR
  omega
end Shape
end
end Go.Proofs.YtidihnnmdmlgfaaGreat
