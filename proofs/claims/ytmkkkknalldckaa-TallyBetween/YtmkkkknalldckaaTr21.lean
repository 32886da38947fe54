/-
  Lemmas: TallyC.
-/
import Derived.Test.YtmkkkknalldckaaTr05
/-
  The tasks of a tally: how each of the three lies in memory.
-/
namespace Go.Proofs.Ytmkkkknalldckaa
open Go.RowKit
set_option linter.unusedVariables false
set_option linter.unusedSimpArgs false
set_option maxRecDepth 20000
namespace Tally

def cntC (hand a hh : Int) (t : Ans) : Nat → Value := fun i => match i with | 0 => .int .i64 hand | 1 => .int .i64 a | 2 => .int .u64 hh | 3 => .bool t.ok | _ => .int .u64 t.val
def sumC (hand room st sn : Int) (t : Ans) : Nat → Value := fun i => match i with | 0 => .int .i64 hand | 1 => .int .i64 room | 2 => .int .i64 st | 3 => .int .u64 sn | 4 => .bool t.ok | _ => .int .u64 t.val
def mstC (hand at_ hh sn : Int) (ld : Bool) (t : Ans) : Nat → Value := fun i => match i with | 0 => .int .i64 hand | 1 => .int .i64 at_ | 2 => .int .u64 hh | 3 => .int .u64 sn | 4 => .bool ld | 5 => .bool t.ok | _ => .int .u64 t.val

theorem cnt_next (hand a hh : Int) (t : Ans) (p : Int) (i : Nat) (hi : i < 5) : (fun j => if j = 4 then Value.int .u64 p else (fun j => if j = 3 then Value.bool true else cntC hand a hh t j) j) i = cntC hand a hh ⟨true, p⟩ i := by
  match i, hi with
  | 0, _ | 1, _ | 2, _ | 3, _ | 4, _ => rfl
theorem sum_next (hand room st sn : Int) (t : Ans) (s1 r1 : Int) (i : Nat) (hi : i < 6) : (fun j => if j = 2 then Value.int .i64 s1 else (fun j => if j = 3 then Value.int .u64 r1 else sumC hand room st sn t j) j) i = sumC hand room s1 r1 t i := by
  match i, hi with
  | 0, _ | 1, _ | 2, _ | 3, _ | 4, _ | 5, _ => rfl
theorem sum_next' (hand room st sn : Int) (t : Ans) (s1 r1 : Int) (i : Nat) (hi : i < 6) : (fun j => if j = 5 then Value.int .u64 r1 else (fun j => if j = 4 then Value.bool true else (fun j => if j = 2 then Value.int .i64 s1 else (fun j => if j = 3 then Value.int .u64 r1 else sumC hand room st sn t j) j) j) j) i = sumC hand room s1 r1 ⟨true, r1⟩ i := by
  match i, hi with
  | 0, _ | 1, _ | 2, _ | 3, _ | 4, _ | 5, _ => rfl
theorem mst_told (hand at_ hh sn : Int) (ld : Bool) (t : Ans) (o : Bool) (p : Int) (i : Nat) (hi : i < 7) : (fun j => if j = 6 then Value.int .u64 p else (fun j => if j = 5 then Value.bool o else mstC hand at_ hh sn ld t j) j) i = mstC hand at_ hh sn ld ⟨o, p⟩ i := by
  match i, hi with
  | 0, _ | 1, _ | 2, _ | 3, _ | 4, _ | 5, _ | 6, _ => rfl
theorem mst_seen (hand at_ hh sn : Int) (ld : Bool) (t : Ans) (p : Int) (i : Nat) (hi : i < 7) : (fun j => if j = 4 then Value.bool true else (fun j => if j = 3 then Value.int .u64 p else mstC hand at_ hh sn ld t j) j) i = mstC hand at_ hh p true t i := by
  match i, hi with
  | 0, _ | 1, _ | 2, _ | 3, _ | 4, _ | 5, _ | 6, _ => rfl
theorem mst_again (hand at_ hh sn : Int) (ld : Bool) (t : Ans) (i : Nat) (hi : i < 7) : (fun j => if j = 4 then Value.bool false else mstC hand at_ hh sn ld t j) i = mstC hand at_ hh sn false t i := by
  match i, hi with
  | 0, _ | 1, _ | 2, _ | 3, _ | 4, _ | 5, _ | 6, _ => rfl

end Tally
end Go.Proofs.Ytmkkkknalldckaa
