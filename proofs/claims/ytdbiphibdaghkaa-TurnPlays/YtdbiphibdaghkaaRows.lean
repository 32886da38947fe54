/-
  No cell of these rows narrows 'for every input' (looked for: loops, veiled, ifaces, maps, wideKeys, modest, calm, conditions, laid).
  DERIVED. THE GIVEN ROWS OF THIS SEAT. 6 by the template 'for every input the law returns true; each argument reads behind the call as it read before'; 0 by the template 'total and deterministic' (their statements: YtdbiphibdaghkaaTotals.lean).
  GIVEN WITH THE SEED: the statements are not yours to turn. If you find one false, say at which input.
  Laid BY PROGRAM, IN A SANDBOX (cutbox-rows.mjs): the forced cells as the released guide's own fill.sh prints them over the translation 6c8efa2db89bbefa… (all of the seat's roots in one cut). By AI agents, Wed Nov 11 2026. No macro, syntax, notation, axiom, sorry.
-/
import Derived.Test.YtdbiphibdaghkaaChecked
import GoSem.Claim
import GoSem.ClaimJoined
import GoSem.ClaimMapViews
import Derived.JoinedTies
import Derived.KernelRfl
namespace Go.Proofs.Ytdbiphibdaghkaa
/- THE CELL 'sum', in the pinned program and in every row, IS THE sha256 OF THE DUMP (.gsa) THAT YtdbiphibdaghkaaProg.lean LOADS. Nothing in Lean hashes anything: it is a label: what it is worth is what the hold of that sum in a sandbox is worth. -/
noncomputable def Try.pinned : Pinned := { name := "ytdbiphibdaghkaa", sum := "6c8efa2db89bbefa3d0c1deba35ae2dad385194e4c5bebce58685d387c634cd9", checked := Try.checked }
namespace Rows
def none {H : Type} : Left H := { results := [], args := [] }

/-- 'middenlaw03.TurnActs': WHATEVER THE INPUT: true; the input reads as it did. -/
def turnActsSpec : ChangeSpec := { name := "turnActs", fn := fun _ => fun
  | [d1, d2, d3, d4] => { results := [.lit (.bool true)], args := [d1, d2, d3, d4] }
  | _ => none }
def turnActsRow : OpenClaim := { program := "ytdbiphibdaghkaa", sum := "6c8efa2db89bbefa3d0c1deba35ae2dad385194e4c5bebce58685d387c634cd9", func := "midden/middenlaw03.TurnActs", spec := "turnActs", inPlace := ["sync/atomic.StoreUint64", "sync/atomic.LoadUint64"], unfollowed := true, recurses := true, leaving := true, apart := false }
def TurnActsSaid : Prop := turnActsRow.holds Try.pinned (OpenSpec.ofChange turnActsSpec)

/-- ITS FALSE NEIGHBOUR: 'it returns false'. Refute it at one input. -/
def turnActsWrong : ChangeSpec := { name := "turnActs", fn := fun _ => fun
  | [d1, d2, d3, d4] => { results := [.lit (.bool false)], args := [d1, d2, d3, d4] }
  | _ => none }
def TurnActsWrongFalsely : Prop := turnActsRow.holds Try.pinned (OpenSpec.ofChange turnActsWrong)

/-- 'middenlaw03.TurnPlays': WHATEVER THE INPUT: true; the input reads as it did. -/
def turnPlaysSpec : ChangeSpec := { name := "turnPlays", fn := fun _ => fun
  | [d1, d2, d3, d4] => { results := [.lit (.bool true)], args := [d1, d2, d3, d4] }
  | _ => none }
def turnPlaysRow : OpenClaim := { program := "ytdbiphibdaghkaa", sum := "6c8efa2db89bbefa3d0c1deba35ae2dad385194e4c5bebce58685d387c634cd9", func := "midden/middenlaw03.TurnPlays", spec := "turnPlays", inPlace := ["sync/atomic.StoreUint64", "sync/atomic.LoadUint64"], unfollowed := true, recurses := true, leaving := true, apart := false }
def TurnPlaysSaid : Prop := turnPlaysRow.holds Try.pinned (OpenSpec.ofChange turnPlaysSpec)

/-- ITS FALSE NEIGHBOUR: 'it returns false'. Refute it at one input. -/
def turnPlaysWrong : ChangeSpec := { name := "turnPlays", fn := fun _ => fun
  | [d1, d2, d3, d4] => { results := [.lit (.bool false)], args := [d1, d2, d3, d4] }
  | _ => none }
def TurnPlaysWrongFalsely : Prop := turnPlaysRow.holds Try.pinned (OpenSpec.ofChange turnPlaysWrong)

/-- 'middenlaw03.TurnPieces': WHATEVER THE INPUT: true; the input reads as it did. -/
def turnPiecesSpec : ChangeSpec := { name := "turnPieces", fn := fun _ => fun
  | [d1, d2, d3, d4, d5] => { results := [.lit (.bool true)], args := [d1, d2, d3, d4, d5] }
  | _ => none }
def turnPiecesRow : OpenClaim := { program := "ytdbiphibdaghkaa", sum := "6c8efa2db89bbefa3d0c1deba35ae2dad385194e4c5bebce58685d387c634cd9", func := "midden/middenlaw03.TurnPieces", spec := "turnPieces", inPlace := ["sync/atomic.StoreUint64", "sync/atomic.LoadUint64"], unfollowed := true, recurses := true, leaving := true, apart := false }
def TurnPiecesSaid : Prop := turnPiecesRow.holds Try.pinned (OpenSpec.ofChange turnPiecesSpec)

/-- ITS FALSE NEIGHBOUR: 'it returns false'. Refute it at one input. -/
def turnPiecesWrong : ChangeSpec := { name := "turnPieces", fn := fun _ => fun
  | [d1, d2, d3, d4, d5] => { results := [.lit (.bool false)], args := [d1, d2, d3, d4, d5] }
  | _ => none }
def TurnPiecesWrongFalsely : Prop := turnPiecesRow.holds Try.pinned (OpenSpec.ofChange turnPiecesWrong)

/-- 'middenlaw03.TurnFree': WHATEVER THE INPUT: true; the input reads as it did. -/
def turnFreeSpec : ChangeSpec := { name := "turnFree", fn := fun _ => fun
  | [d1, d2] => { results := [.lit (.bool true)], args := [d1, d2] }
  | _ => none }
def turnFreeRow : OpenClaim := { program := "ytdbiphibdaghkaa", sum := "6c8efa2db89bbefa3d0c1deba35ae2dad385194e4c5bebce58685d387c634cd9", func := "midden/middenlaw03.TurnFree", spec := "turnFree", inPlace := ["sync/atomic.StoreUint64", "sync/atomic.LoadUint64", "(*sync.WaitGroup).Add", "internal/race.ReleaseMerge", "internal/race.Disable", "internal/race.Enable", "internal/synctest.IsInBubble", "internal/synctest.Associate[sync.WaitGroup]", "sync.fatal", "sync/atomic.OrUint64", "sync/atomic.AddUint64", "internal/race.Read", "internal/synctest.Disassociate[sync.WaitGroup]", "sync.runtime_Semrelease", "(*sync.WaitGroup).Done", "(*sync.WaitGroup).Go", "(*sync.WaitGroup).Go$1", "(*sync.WaitGroup).Go$1$1", "(*sync.WaitGroup).Wait", "internal/race.Acquire", "internal/synctest.IsAssociated[sync.WaitGroup]", "sync/atomic.CompareAndSwapUint64", "internal/race.Write", "sync.runtime_SemacquireWaitGroup"], unfollowed := true, recurses := true, leaving := true, apart := false }
def TurnFreeSaid : Prop := turnFreeRow.holds Try.pinned (OpenSpec.ofChange turnFreeSpec)

/-- ITS FALSE NEIGHBOUR: 'it returns false'. Refute it at one input. -/
def turnFreeWrong : ChangeSpec := { name := "turnFree", fn := fun _ => fun
  | [d1, d2] => { results := [.lit (.bool false)], args := [d1, d2] }
  | _ => none }
def TurnFreeWrongFalsely : Prop := turnFreeRow.holds Try.pinned (OpenSpec.ofChange turnFreeWrong)

/-- 'middenlaw04.OncePlays': WHATEVER THE INPUT: true; the input reads as it did. -/
def oncePlaysSpec : ChangeSpec := { name := "oncePlays", fn := fun _ => fun
  | [d] => { results := [.lit (.bool true)], args := [d] }
  | _ => none }
def oncePlaysRow : OpenClaim := { program := "ytdbiphibdaghkaa", sum := "6c8efa2db89bbefa3d0c1deba35ae2dad385194e4c5bebce58685d387c634cd9", func := "midden/middenlaw04.OncePlays", spec := "oncePlays", inPlace := ["sync/atomic.StoreUint64", "sync/atomic.LoadUint64"], unfollowed := true, recurses := true, leaving := true, apart := false }
def OncePlaysSaid : Prop := oncePlaysRow.holds Try.pinned (OpenSpec.ofChange oncePlaysSpec)

/-- ITS FALSE NEIGHBOUR: 'it returns false'. Refute it at one input. -/
def oncePlaysWrong : ChangeSpec := { name := "oncePlays", fn := fun _ => fun
  | [d] => { results := [.lit (.bool false)], args := [d] }
  | _ => none }
def OncePlaysWrongFalsely : Prop := oncePlaysRow.holds Try.pinned (OpenSpec.ofChange oncePlaysWrong)

/-- 'middenlaw04.OnceTasks': WHATEVER THE INPUT: true; the input reads as it did. -/
def onceTasksSpec : ChangeSpec := { name := "onceTasks", fn := fun _ => fun
  | [d1, d2, d3] => { results := [.lit (.bool true)], args := [d1, d2, d3] }
  | _ => none }
def onceTasksRow : OpenClaim := { program := "ytdbiphibdaghkaa", sum := "6c8efa2db89bbefa3d0c1deba35ae2dad385194e4c5bebce58685d387c634cd9", func := "midden/middenlaw04.OnceTasks", spec := "onceTasks", inPlace := ["sync/atomic.StoreUint64", "sync/atomic.LoadUint64"], unfollowed := true, recurses := true, leaving := true, apart := false }
def OnceTasksSaid : Prop := onceTasksRow.holds Try.pinned (OpenSpec.ofChange onceTasksSpec)

/-- ITS FALSE NEIGHBOUR: 'it returns false'. Refute it at one input. -/
def onceTasksWrong : ChangeSpec := { name := "onceTasks", fn := fun _ => fun
  | [d1, d2, d3] => { results := [.lit (.bool false)], args := [d1, d2, d3] }
  | _ => none }
def OnceTasksWrongFalsely : Prop := onceTasksRow.holds Try.pinned (OpenSpec.ofChange onceTasksWrong)

/- THE SECOND FORM. 'bulk': how many values and letters a reading holds, each counted each time it is reached (what is shared counts as often as it is met; a slice's spare places count too). A statement '..UptoSaid' is the law's where the arguments, and the package variables that the reading takes, are together of bulk at most 1048576: NARROWER than '..Said'. Prove '..Said' where nothing that the law and all that it calls make is longer than what came in: it says more and counts as full. Else prove '..UptoSaid'. A law counts once. -/
mutual
def uptoBulk {H : Type} : DataW H → Nat
  | .lit (.string bytes) => bytes.length + 1
  | .lit _ => 1
  | .nil => 1
  | .ptr d => uptoBulk d + 1
  | .slice elems spare => uptoBulkAll elems + uptoBulkAll spare + 1
  | .agg parts => uptoBulkAll parts + 1
  | .iface _ d => uptoBulk d + 1
  | .map entries => uptoBulkEntries entries + 1
  | .held _ => 1
def uptoBulkAll {H : Type} : List (DataW H) → Nat
  | [] => 0
  | d :: r => uptoBulk d + uptoBulkAll r
def uptoBulkEntries {H : Type} : List (Lit × DataW H) → Nat
  | [] => 0
  | x :: r => uptoBulkEntry x + uptoBulkEntries r
def uptoBulkEntry {H : Type} : Lit × DataW H → Nat
  | (.string bytes, d) => bytes.length + uptoBulk d + 1
  | (_, d) => uptoBulk d + 1
 end
def uptoSmall : (H : Type) → List (DataW H) → Bool := fun _ ds => decide (uptoBulkAll ds ≤ 1048576)
def OpenSpec.upto (s : _root_.Go.ChangeSpec) : _root_.Go.OpenSpec := { _root_.Go.OpenSpec.ofChange s with cond := some uptoSmall }

/-- 'middenlaw03.TurnActs', WHERE WHAT IT READS IS OF BULK AT MOST 1048576: true; the input reads as it did. -/
def turnActsUptoRow : OpenClaim := { program := "ytdbiphibdaghkaa", sum := "6c8efa2db89bbefa3d0c1deba35ae2dad385194e4c5bebce58685d387c634cd9", func := "midden/middenlaw03.TurnActs", spec := "turnActs", inPlace := ["sync/atomic.StoreUint64", "sync/atomic.LoadUint64"], unfollowed := true, recurses := true, leaving := true, apart := false, narrowed := true }
def TurnActsUptoSaid : Prop := turnActsUptoRow.holds Try.pinned (OpenSpec.upto turnActsSpec)

/-- 'middenlaw03.TurnPlays', WHERE WHAT IT READS IS OF BULK AT MOST 1048576: true; the input reads as it did. -/
def turnPlaysUptoRow : OpenClaim := { program := "ytdbiphibdaghkaa", sum := "6c8efa2db89bbefa3d0c1deba35ae2dad385194e4c5bebce58685d387c634cd9", func := "midden/middenlaw03.TurnPlays", spec := "turnPlays", inPlace := ["sync/atomic.StoreUint64", "sync/atomic.LoadUint64"], unfollowed := true, recurses := true, leaving := true, apart := false, narrowed := true }
def TurnPlaysUptoSaid : Prop := turnPlaysUptoRow.holds Try.pinned (OpenSpec.upto turnPlaysSpec)

/-- 'middenlaw03.TurnPieces', WHERE WHAT IT READS IS OF BULK AT MOST 1048576: true; the input reads as it did. -/
def turnPiecesUptoRow : OpenClaim := { program := "ytdbiphibdaghkaa", sum := "6c8efa2db89bbefa3d0c1deba35ae2dad385194e4c5bebce58685d387c634cd9", func := "midden/middenlaw03.TurnPieces", spec := "turnPieces", inPlace := ["sync/atomic.StoreUint64", "sync/atomic.LoadUint64"], unfollowed := true, recurses := true, leaving := true, apart := false, narrowed := true }
def TurnPiecesUptoSaid : Prop := turnPiecesUptoRow.holds Try.pinned (OpenSpec.upto turnPiecesSpec)

/-- 'middenlaw03.TurnFree', WHERE WHAT IT READS IS OF BULK AT MOST 1048576: true; the input reads as it did. -/
def turnFreeUptoRow : OpenClaim := { program := "ytdbiphibdaghkaa", sum := "6c8efa2db89bbefa3d0c1deba35ae2dad385194e4c5bebce58685d387c634cd9", func := "midden/middenlaw03.TurnFree", spec := "turnFree", inPlace := ["sync/atomic.StoreUint64", "sync/atomic.LoadUint64", "(*sync.WaitGroup).Add", "internal/race.ReleaseMerge", "internal/race.Disable", "internal/race.Enable", "internal/synctest.IsInBubble", "internal/synctest.Associate[sync.WaitGroup]", "sync.fatal", "sync/atomic.OrUint64", "sync/atomic.AddUint64", "internal/race.Read", "internal/synctest.Disassociate[sync.WaitGroup]", "sync.runtime_Semrelease", "(*sync.WaitGroup).Done", "(*sync.WaitGroup).Go", "(*sync.WaitGroup).Go$1", "(*sync.WaitGroup).Go$1$1", "(*sync.WaitGroup).Wait", "internal/race.Acquire", "internal/synctest.IsAssociated[sync.WaitGroup]", "sync/atomic.CompareAndSwapUint64", "internal/race.Write", "sync.runtime_SemacquireWaitGroup"], unfollowed := true, recurses := true, leaving := true, apart := false, narrowed := true }
def TurnFreeUptoSaid : Prop := turnFreeUptoRow.holds Try.pinned (OpenSpec.upto turnFreeSpec)

/-- 'middenlaw04.OncePlays', WHERE WHAT IT READS IS OF BULK AT MOST 1048576: true; the input reads as it did. -/
def oncePlaysUptoRow : OpenClaim := { program := "ytdbiphibdaghkaa", sum := "6c8efa2db89bbefa3d0c1deba35ae2dad385194e4c5bebce58685d387c634cd9", func := "midden/middenlaw04.OncePlays", spec := "oncePlays", inPlace := ["sync/atomic.StoreUint64", "sync/atomic.LoadUint64"], unfollowed := true, recurses := true, leaving := true, apart := false, narrowed := true }
def OncePlaysUptoSaid : Prop := oncePlaysUptoRow.holds Try.pinned (OpenSpec.upto oncePlaysSpec)

/-- 'middenlaw04.OnceTasks', WHERE WHAT IT READS IS OF BULK AT MOST 1048576: true; the input reads as it did. -/
def onceTasksUptoRow : OpenClaim := { program := "ytdbiphibdaghkaa", sum := "6c8efa2db89bbefa3d0c1deba35ae2dad385194e4c5bebce58685d387c634cd9", func := "midden/middenlaw04.OnceTasks", spec := "onceTasks", inPlace := ["sync/atomic.StoreUint64", "sync/atomic.LoadUint64"], unfollowed := true, recurses := true, leaving := true, apart := false, narrowed := true }
def OnceTasksUptoSaid : Prop := onceTasksUptoRow.holds Try.pinned (OpenSpec.upto onceTasksSpec)

end Rows
end Go.Proofs.Ytdbiphibdaghkaa
