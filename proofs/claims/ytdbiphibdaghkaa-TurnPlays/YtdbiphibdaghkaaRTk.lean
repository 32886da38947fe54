/-
  The reference's tasks as lists of cells.
-/
import Derived.Test.YtdbiphibdaghkaaRLaid
namespace Go.Proofs.Ytdbiphibdaghkaa
open Go.RowKit
set_option linter.unusedVariables false
set_option linter.unusedSimpArgs false
set_option linter.unnecessarySimpa false
set_option maxRecDepth 20000

/-- Eight numbers that a task has seen. -/
structure Rg where
  r0 : Int
  r1 : Int
  r2 : Int
  r3 : Int
  r4 : Int
  r5 : Int
  r6 : Int
  r7 : Int
def Rg.zero : Rg := ⟨0, 0, 0, 0, 0, 0, 0, 0⟩

def tk (s : Shp) (hand : Int) (j : Jb) (stt : Int) (r : Rg) (an : Ans) : List Value :=
  [.int .i64 s.a, .int .i64 s.b, .int .i64 s.c, .int .i64 s.d, .int .i64 s.e, .int .i64 s.f, .int .i64 hand, .int .i64 j.kind, .int .i64 j.a, .int .i64 j.b, .int .i64 j.c, .int .u64 j.h, .int .i64 stt,
   .int .u64 r.r0, .int .u64 r.r1, .int .u64 r.r2, .int .u64 r.r3, .int .u64 r.r4, .int .u64 r.r5, .int .u64 r.r6, .int .u64 r.r7, .slice none 0 0, .bool an.ok, .int .u64 an.val, .int .u64 0, .int .u64 0, .int .u64 0, .int .u64 0]
theorem tk_is (s : Shp) (hand : Int) (j : Jb) (stt : Int) (r : Rg) (an : Ans) : IsTk (tk s hand j stt r an) := ⟨rfl, by simp [tk, Value.oneCell']⟩
theorem tk_kept (s : Shp) (hand : Int) (j : Jb) (stt : Int) (r : Rg) (an : Ans) : ∀ q, q < 4 → (tk s hand j stt r an)[24 + q]? = some (.int .u64 0) := fun q hq => by
  match q, hq with
  | 0, _ | 1, _ | 2, _ | 3, _ => rfl
theorem tk_ans (s : Shp) (hand : Int) (j : Jb) (stt : Int) (r : Rg) (an : Ans) : (tk s hand j stt r an)[22]? = some (.bool an.ok) ∧ (tk s hand j stt r an)[23]? = some (.int .u64 an.val) := ⟨rfl, rfl⟩
def Shp.zero : Shp := ⟨0, 0, 0, 0, 0, 0⟩
def kept0 : Value := .agg #[.int .u64 0, .int .u64 0, .int .u64 0, .int .u64 0]
def tk0 : List Value := [.int .i64 0, .int .i64 0, .int .i64 0, .int .i64 0, .int .i64 0, .int .i64 0, .int .i64 0, .int .i64 0, .int .i64 0, .int .i64 0, .int .i64 0, .int .u64 0, .int .i64 0, .int .u64 0, .int .u64 0, .int .u64 0, .int .u64 0, .int .u64 0, .int .u64 0, .int .u64 0, .int .u64 0, .slice none 0 0, .bool false, .int .u64 0, .int .u64 0, .int .u64 0, .int .u64 0, .int .u64 0]
theorem tk0_is : IsTk tk0 := ⟨rfl, by simp [tk0, Value.oneCell']⟩
end Go.Proofs.Ytdbiphibdaghkaa
