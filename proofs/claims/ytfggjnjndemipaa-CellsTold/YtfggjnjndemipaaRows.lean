/-
  No cell of these rows narrows 'for every input' (looked for: loops, veiled, ifaces, maps, wideKeys, modest, calm, conditions, laid).
  DERIVED. THE GIVEN ROWS OF THIS SEAT. 6 by the template 'for every input the law returns true; each argument reads behind the call as it read before'; 0 by the template 'total and deterministic' (their statements: YtfggjnjndemipaaTotals.lean).
  GIVEN WITH THE SEED: the statements are not yours to turn. If you find one false, say at which input.
  Laid BY PROGRAM, IN A SANDBOX (cutbox-rows.mjs): the forced cells as the released guide's own fill.sh prints them over the translation 3ecef1cc77e641a8… (all of the seat's roots in one cut). By AI agents, Wed Nov 11 2026. No macro, syntax, notation, axiom, sorry.
-/
import Derived.Test.YtfggjnjndemipaaChecked
import GoSem.Claim
import GoSem.ClaimJoined
import GoSem.ClaimMapViews
import Derived.JoinedTies
import Derived.KernelRfl
namespace Go.Proofs.Ytfggjnjndemipaa
/- THE CELL 'sum', in the pinned program and in every row, IS THE sha256 OF THE DUMP (.gsa) THAT YtfggjnjndemipaaProg.lean LOADS. Nothing in Lean hashes anything: it is a label: what it is worth is what the hold of that sum in a sandbox is worth. -/
noncomputable def Try.pinned : Pinned := { name := "ytfggjnjndemipaa", sum := "3ecef1cc77e641a8335d7dcde2453a84894a24a06672006b962d91ea36650a57", checked := Try.checked }
namespace Rows
def none {H : Type} : Left H := { results := [], args := [] }

/-- 'middenlaw02.CellsScripts': WHATEVER THE INPUT: true; the input reads as it did. -/
def cellsScriptsSpec : ChangeSpec := { name := "cellsScripts", fn := fun _ => fun
  | [d1, d2] => { results := [.lit (.bool true)], args := [d1, d2] }
  | _ => none }
def cellsScriptsRow : OpenClaim := { program := "ytfggjnjndemipaa", sum := "3ecef1cc77e641a8335d7dcde2453a84894a24a06672006b962d91ea36650a57", func := "midden/middenlaw02.CellsScripts", spec := "cellsScripts", inPlace := ["sync/atomic.StoreUint64", "sync/atomic.LoadUint64", "sync/atomic.SwapUint64", "sync/atomic.AddUint64", "sync/atomic.CompareAndSwapUint64"], apart := false }
def CellsScriptsSaid : Prop := cellsScriptsRow.holds Try.pinned (OpenSpec.ofChange cellsScriptsSpec)

/-- ITS FALSE NEIGHBOUR: 'it returns false'. Refute it at one input. -/
def cellsScriptsWrong : ChangeSpec := { name := "cellsScripts", fn := fun _ => fun
  | [d1, d2] => { results := [.lit (.bool false)], args := [d1, d2] }
  | _ => none }
def CellsScriptsWrongFalsely : Prop := cellsScriptsRow.holds Try.pinned (OpenSpec.ofChange cellsScriptsWrong)

/-- 'middenlaw02.CellsActs': WHATEVER THE INPUT: true; the input reads as it did. -/
def cellsActsSpec : ChangeSpec := { name := "cellsActs", fn := fun _ => fun
  | [d1, d2] => { results := [.lit (.bool true)], args := [d1, d2] }
  | _ => none }
def cellsActsRow : OpenClaim := { program := "ytfggjnjndemipaa", sum := "3ecef1cc77e641a8335d7dcde2453a84894a24a06672006b962d91ea36650a57", func := "midden/middenlaw02.CellsActs", spec := "cellsActs", inPlace := ["sync/atomic.StoreUint64", "sync/atomic.LoadUint64", "sync/atomic.SwapUint64", "sync/atomic.AddUint64", "sync/atomic.CompareAndSwapUint64"], apart := false }
def CellsActsSaid : Prop := cellsActsRow.holds Try.pinned (OpenSpec.ofChange cellsActsSpec)

/-- ITS FALSE NEIGHBOUR: 'it returns false'. Refute it at one input. -/
def cellsActsWrong : ChangeSpec := { name := "cellsActs", fn := fun _ => fun
  | [d1, d2] => { results := [.lit (.bool false)], args := [d1, d2] }
  | _ => none }
def CellsActsWrongFalsely : Prop := cellsActsRow.holds Try.pinned (OpenSpec.ofChange cellsActsWrong)

/-- 'middenlaw02.CellsStorms': WHATEVER THE INPUT: true; the input reads as it did. -/
def cellsStormsSpec : ChangeSpec := { name := "cellsStorms", fn := fun _ => fun
  | [d1, d2] => { results := [.lit (.bool true)], args := [d1, d2] }
  | _ => none }
def cellsStormsRow : OpenClaim := { program := "ytfggjnjndemipaa", sum := "3ecef1cc77e641a8335d7dcde2453a84894a24a06672006b962d91ea36650a57", func := "midden/middenlaw02.CellsStorms", spec := "cellsStorms", inPlace := ["sync/atomic.StoreUint64", "sync/atomic.LoadUint64", "sync/atomic.SwapUint64", "sync/atomic.AddUint64", "sync/atomic.CompareAndSwapUint64", "(*sync.WaitGroup).Add", "internal/race.ReleaseMerge", "internal/race.Disable", "internal/race.Enable", "internal/synctest.IsInBubble", "internal/synctest.Associate[sync.WaitGroup]", "sync.fatal", "sync/atomic.OrUint64", "internal/race.Read", "internal/synctest.Disassociate[sync.WaitGroup]", "sync.runtime_Semrelease", "(*sync.WaitGroup).Done", "(*sync.WaitGroup).Wait", "internal/race.Acquire", "internal/synctest.IsAssociated[sync.WaitGroup]", "internal/race.Write", "sync.runtime_SemacquireWaitGroup"], unfollowed := true, recurses := true, leaving := true, apart := false }
def CellsStormsSaid : Prop := cellsStormsRow.holds Try.pinned (OpenSpec.ofChange cellsStormsSpec)

/-- ITS FALSE NEIGHBOUR: 'it returns false'. Refute it at one input. -/
def cellsStormsWrong : ChangeSpec := { name := "cellsStorms", fn := fun _ => fun
  | [d1, d2] => { results := [.lit (.bool false)], args := [d1, d2] }
  | _ => none }
def CellsStormsWrongFalsely : Prop := cellsStormsRow.holds Try.pinned (OpenSpec.ofChange cellsStormsWrong)

/-- 'middenlaw02.CellsSums': WHATEVER THE INPUT: true; the input reads as it did. -/
def cellsSumsSpec : ChangeSpec := { name := "cellsSums", fn := fun _ => fun
  | [d1, d2, d3] => { results := [.lit (.bool true)], args := [d1, d2, d3] }
  | _ => none }
def cellsSumsRow : OpenClaim := { program := "ytfggjnjndemipaa", sum := "3ecef1cc77e641a8335d7dcde2453a84894a24a06672006b962d91ea36650a57", func := "midden/middenlaw02.CellsSums", spec := "cellsSums", inPlace := ["sync/atomic.StoreUint64", "sync/atomic.LoadUint64", "sync/atomic.SwapUint64", "sync/atomic.AddUint64", "sync/atomic.CompareAndSwapUint64", "(*sync.WaitGroup).Add", "internal/race.ReleaseMerge", "internal/race.Disable", "internal/race.Enable", "internal/synctest.IsInBubble", "internal/synctest.Associate[sync.WaitGroup]", "sync.fatal", "sync/atomic.OrUint64", "internal/race.Read", "internal/synctest.Disassociate[sync.WaitGroup]", "sync.runtime_Semrelease", "(*sync.WaitGroup).Done", "(*sync.WaitGroup).Wait", "internal/race.Acquire", "internal/synctest.IsAssociated[sync.WaitGroup]", "internal/race.Write", "sync.runtime_SemacquireWaitGroup"], unfollowed := true, recurses := true, leaving := true, apart := false }
def CellsSumsSaid : Prop := cellsSumsRow.holds Try.pinned (OpenSpec.ofChange cellsSumsSpec)

/-- ITS FALSE NEIGHBOUR: 'it returns false'. Refute it at one input. -/
def cellsSumsWrong : ChangeSpec := { name := "cellsSums", fn := fun _ => fun
  | [d1, d2, d3] => { results := [.lit (.bool false)], args := [d1, d2, d3] }
  | _ => none }
def CellsSumsWrongFalsely : Prop := cellsSumsRow.holds Try.pinned (OpenSpec.ofChange cellsSumsWrong)

/-- 'middenlaw02.CellsTold': WHATEVER THE INPUT: true; the input reads as it did. -/
def cellsToldSpec : ChangeSpec := { name := "cellsTold", fn := fun _ => fun
  | [d1, d2] => { results := [.lit (.bool true)], args := [d1, d2] }
  | _ => none }
def cellsToldRow : OpenClaim := { program := "ytfggjnjndemipaa", sum := "3ecef1cc77e641a8335d7dcde2453a84894a24a06672006b962d91ea36650a57", func := "midden/middenlaw02.CellsTold", spec := "cellsTold", inPlace := ["sync/atomic.StoreUint64", "sync/atomic.LoadUint64", "sync/atomic.SwapUint64", "sync/atomic.AddUint64", "sync/atomic.CompareAndSwapUint64"], apart := false }
def CellsToldSaid : Prop := cellsToldRow.holds Try.pinned (OpenSpec.ofChange cellsToldSpec)

/-- ITS FALSE NEIGHBOUR: 'it returns false'. Refute it at one input. -/
def cellsToldWrong : ChangeSpec := { name := "cellsTold", fn := fun _ => fun
  | [d1, d2] => { results := [.lit (.bool false)], args := [d1, d2] }
  | _ => none }
def CellsToldWrongFalsely : Prop := cellsToldRow.holds Try.pinned (OpenSpec.ofChange cellsToldWrong)

/-- 'middenlaw02.CellsKeeps': WHATEVER THE INPUT: true; the input reads as it did. -/
def cellsKeepsSpec : ChangeSpec := { name := "cellsKeeps", fn := fun _ => fun
  | [d1, d2] => { results := [.lit (.bool true)], args := [d1, d2] }
  | _ => none }
def cellsKeepsRow : OpenClaim := { program := "ytfggjnjndemipaa", sum := "3ecef1cc77e641a8335d7dcde2453a84894a24a06672006b962d91ea36650a57", func := "midden/middenlaw02.CellsKeeps", spec := "cellsKeeps", inPlace := ["sync/atomic.StoreUint64", "sync/atomic.LoadUint64", "sync/atomic.SwapUint64", "sync/atomic.AddUint64", "sync/atomic.CompareAndSwapUint64"], apart := false }
def CellsKeepsSaid : Prop := cellsKeepsRow.holds Try.pinned (OpenSpec.ofChange cellsKeepsSpec)

/-- ITS FALSE NEIGHBOUR: 'it returns false'. Refute it at one input. -/
def cellsKeepsWrong : ChangeSpec := { name := "cellsKeeps", fn := fun _ => fun
  | [d1, d2] => { results := [.lit (.bool false)], args := [d1, d2] }
  | _ => none }
def CellsKeepsWrongFalsely : Prop := cellsKeepsRow.holds Try.pinned (OpenSpec.ofChange cellsKeepsWrong)

/- THE SECOND FORM. 'bulk': how many values and letters a reading holds, each counted each time it is reached (what is shared counts as often as it is met; a slice's spare places count too). A statement '..UptoSaid' is the law's where the arguments, and the package variables that the reading takes, are together of bulk at most 1048576: NARROWER than '..Said'. Prove '..Said' where nothing that the law and all that it calls make is longer than what came in: it says more and counts as full. Else prove '..UptoSaid'. A law counts once. -/
mutual
def uptoBulk {H : Type} : DataW H → Nat
  | .lit (.string bytes) => bytes.length + 1
  | .lit _ => 1
  | .nil => 1
  | .ptr d => uptoBulk d + 1
  | .slice elems spare => uptoBulkAll elems + uptoBulkAll spare + 1
  | .agg parts => uptoBulkAll parts + 1
  | .iface _ d => uptoBulk d + 1
  | .map entries => uptoBulkEntries entries + 1
  | .held _ => 1
def uptoBulkAll {H : Type} : List (DataW H) → Nat
  | [] => 0
  | d :: r => uptoBulk d + uptoBulkAll r
def uptoBulkEntries {H : Type} : List (Lit × DataW H) → Nat
  | [] => 0
  | x :: r => uptoBulkEntry x + uptoBulkEntries r
def uptoBulkEntry {H : Type} : Lit × DataW H → Nat
  | (.string bytes, d) => bytes.length + uptoBulk d + 1
  | (_, d) => uptoBulk d + 1
 end
def uptoSmall : (H : Type) → List (DataW H) → Bool := fun _ ds => decide (uptoBulkAll ds ≤ 1048576)
def OpenSpec.upto (s : _root_.Go.ChangeSpec) : _root_.Go.OpenSpec := { _root_.Go.OpenSpec.ofChange s with cond := some uptoSmall }

/-- 'middenlaw02.CellsScripts', WHERE WHAT IT READS IS OF BULK AT MOST 1048576: true; the input reads as it did. -/
def cellsScriptsUptoRow : OpenClaim := { program := "ytfggjnjndemipaa", sum := "3ecef1cc77e641a8335d7dcde2453a84894a24a06672006b962d91ea36650a57", func := "midden/middenlaw02.CellsScripts", spec := "cellsScripts", inPlace := ["sync/atomic.StoreUint64", "sync/atomic.LoadUint64", "sync/atomic.SwapUint64", "sync/atomic.AddUint64", "sync/atomic.CompareAndSwapUint64"], apart := false, narrowed := true }
def CellsScriptsUptoSaid : Prop := cellsScriptsUptoRow.holds Try.pinned (OpenSpec.upto cellsScriptsSpec)

/-- 'middenlaw02.CellsActs', WHERE WHAT IT READS IS OF BULK AT MOST 1048576: true; the input reads as it did. -/
def cellsActsUptoRow : OpenClaim := { program := "ytfggjnjndemipaa", sum := "3ecef1cc77e641a8335d7dcde2453a84894a24a06672006b962d91ea36650a57", func := "midden/middenlaw02.CellsActs", spec := "cellsActs", inPlace := ["sync/atomic.StoreUint64", "sync/atomic.LoadUint64", "sync/atomic.SwapUint64", "sync/atomic.AddUint64", "sync/atomic.CompareAndSwapUint64"], apart := false, narrowed := true }
def CellsActsUptoSaid : Prop := cellsActsUptoRow.holds Try.pinned (OpenSpec.upto cellsActsSpec)

/-- 'middenlaw02.CellsStorms', WHERE WHAT IT READS IS OF BULK AT MOST 1048576: true; the input reads as it did. -/
def cellsStormsUptoRow : OpenClaim := { program := "ytfggjnjndemipaa", sum := "3ecef1cc77e641a8335d7dcde2453a84894a24a06672006b962d91ea36650a57", func := "midden/middenlaw02.CellsStorms", spec := "cellsStorms", inPlace := ["sync/atomic.StoreUint64", "sync/atomic.LoadUint64", "sync/atomic.SwapUint64", "sync/atomic.AddUint64", "sync/atomic.CompareAndSwapUint64", "(*sync.WaitGroup).Add", "internal/race.ReleaseMerge", "internal/race.Disable", "internal/race.Enable", "internal/synctest.IsInBubble", "internal/synctest.Associate[sync.WaitGroup]", "sync.fatal", "sync/atomic.OrUint64", "internal/race.Read", "internal/synctest.Disassociate[sync.WaitGroup]", "sync.runtime_Semrelease", "(*sync.WaitGroup).Done", "(*sync.WaitGroup).Wait", "internal/race.Acquire", "internal/synctest.IsAssociated[sync.WaitGroup]", "internal/race.Write", "sync.runtime_SemacquireWaitGroup"], unfollowed := true, recurses := true, leaving := true, apart := false, narrowed := true }
def CellsStormsUptoSaid : Prop := cellsStormsUptoRow.holds Try.pinned (OpenSpec.upto cellsStormsSpec)

/-- 'middenlaw02.CellsSums', WHERE WHAT IT READS IS OF BULK AT MOST 1048576: true; the input reads as it did. -/
def cellsSumsUptoRow : OpenClaim := { program := "ytfggjnjndemipaa", sum := "3ecef1cc77e641a8335d7dcde2453a84894a24a06672006b962d91ea36650a57", func := "midden/middenlaw02.CellsSums", spec := "cellsSums", inPlace := ["sync/atomic.StoreUint64", "sync/atomic.LoadUint64", "sync/atomic.SwapUint64", "sync/atomic.AddUint64", "sync/atomic.CompareAndSwapUint64", "(*sync.WaitGroup).Add", "internal/race.ReleaseMerge", "internal/race.Disable", "internal/race.Enable", "internal/synctest.IsInBubble", "internal/synctest.Associate[sync.WaitGroup]", "sync.fatal", "sync/atomic.OrUint64", "internal/race.Read", "internal/synctest.Disassociate[sync.WaitGroup]", "sync.runtime_Semrelease", "(*sync.WaitGroup).Done", "(*sync.WaitGroup).Wait", "internal/race.Acquire", "internal/synctest.IsAssociated[sync.WaitGroup]", "internal/race.Write", "sync.runtime_SemacquireWaitGroup"], unfollowed := true, recurses := true, leaving := true, apart := false, narrowed := true }
def CellsSumsUptoSaid : Prop := cellsSumsUptoRow.holds Try.pinned (OpenSpec.upto cellsSumsSpec)

/-- 'middenlaw02.CellsTold', WHERE WHAT IT READS IS OF BULK AT MOST 1048576: true; the input reads as it did. -/
def cellsToldUptoRow : OpenClaim := { program := "ytfggjnjndemipaa", sum := "3ecef1cc77e641a8335d7dcde2453a84894a24a06672006b962d91ea36650a57", func := "midden/middenlaw02.CellsTold", spec := "cellsTold", inPlace := ["sync/atomic.StoreUint64", "sync/atomic.LoadUint64", "sync/atomic.SwapUint64", "sync/atomic.AddUint64", "sync/atomic.CompareAndSwapUint64"], apart := false, narrowed := true }
def CellsToldUptoSaid : Prop := cellsToldUptoRow.holds Try.pinned (OpenSpec.upto cellsToldSpec)

/-- 'middenlaw02.CellsKeeps', WHERE WHAT IT READS IS OF BULK AT MOST 1048576: true; the input reads as it did. -/
def cellsKeepsUptoRow : OpenClaim := { program := "ytfggjnjndemipaa", sum := "3ecef1cc77e641a8335d7dcde2453a84894a24a06672006b962d91ea36650a57", func := "midden/middenlaw02.CellsKeeps", spec := "cellsKeeps", inPlace := ["sync/atomic.StoreUint64", "sync/atomic.LoadUint64", "sync/atomic.SwapUint64", "sync/atomic.AddUint64", "sync/atomic.CompareAndSwapUint64"], apart := false, narrowed := true }
def CellsKeepsUptoSaid : Prop := cellsKeepsUptoRow.holds Try.pinned (OpenSpec.upto cellsKeepsSpec)

end Rows
end Go.Proofs.Ytfggjnjndemipaa
