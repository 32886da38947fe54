/-
  Lemmas: L17Wrong, L17RanE, RViews.
-/
import Derived.Test.YtppgbndoijppnaaGreatTp44
import Derived.Test.YtppgbndoijppnaaGreatTp48
namespace Go.Proofs.YtppgbndoijppnaaGreat
set_option maxHeartbeats 8000000
open Go.RowKit
set_option linter.unusedVariables false
set_option linter.unusedSimpArgs false
set_option linter.unnecessarySimpa false
set_option maxRecDepth 20000
section
namespace L17
variable {K : Kd} {rep : List Value → K.σ → Prop} {sh : Shp} {w : World} {aoh aos : Option Addr} {caph caps : Nat} {P : Par} {most : Int}
end L17
end
section
namespace L17
def WrongB (K : Kd) (w : World) (P : Par) (most : Int) (e : Ending) (w' : World) : Prop :=
 Below w.heap.size w w' ∧ ((Fine P most ∧ AllOk K P ∧ e = .returned (.int .i64 0)) ∨ ∃ er, ErrOf K P most er ∧ e = .returned (.int .i64 er))
variable {K : Kd} {rep : List Value → K.σ → Prop} {sh : Shp} {w : World} {ao aoh aos : Option Addr} {cap caph caps : Nat} {P : Par} {most : Int}
end L17
end
section
structure Vw where
 k : Nat
 s : Nat → Stp
 n : Nat
 f : Nat → Int
 en : Bool
 m : Nat
 dn : Nat → Nat
 an : Nat → Nat → Ans
 er : Int
def TV (w : World) (V : Vw) (v : Value) : Prop :=
 ∃ sa sc wa wc aa ac, v = .tuple #[.agg #[.slice sa V.k sc, .slice wa V.n wc, .bool V.en], .slice aa V.m ac, .int .i64 V.er] ∧ SeesS w w.heap.size sa V.k V.s ∧ Sees w w.heap.size wa V.n V.f ∧ SeesA w w.heap.size aa V.m V.dn V.an
def RAllR (K : Kd) (rep : List Value → K.σ → Prop) (w : World) (P : Par) (f : Nat → Int) (most : Int) (e : Ending) (w' : World) : Prop :=
 Below w.heap.size w w' ∧ ((∃ er, ErrOf K P most er ∧ e = .returned (errVal er)) ∨ (Fine P most ∧ AllOk K P ∧ ∃ v, e = .returned v ∧ RTold K rep P (runSt P (st0 K P f) most.toNat) (w.heap.size + 1) v w'))
end
end Go.Proofs.YtppgbndoijppnaaGreat
