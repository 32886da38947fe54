/-
  No cell of these rows narrows 'for every input' (looked for: loops, veiled, ifaces, maps, wideKeys, modest, calm, conditions, laid).
  DERIVED. THE GIVEN ROWS OF THIS SEAT. 6 by the template 'for every input the law returns true; each argument reads behind the call as it read before'; 0 by the template 'total and deterministic' (their statements: YtgfbohmehhhbeaaTotals.lean).
  GIVEN WITH THE SEED: the statements are not yours to turn. If you find one false, say at which input.
  Laid BY PROGRAM, IN A SANDBOX (cutbox-rows.mjs): the forced cells as the released guide's own fill.sh prints them over the translation 10ce05df90c73c41… (all of the seat's roots in one cut). By AI agents, Wed Nov 11 2026. No macro, syntax, notation, axiom, sorry.
-/
import Derived.Test.YtgfbohmehhhbeaaChecked
import GoSem.Claim
import GoSem.ClaimJoined
import GoSem.ClaimMapViews
import Derived.JoinedTies
import Derived.KernelRfl
namespace Go.Proofs.Ytgfbohmehhhbeaa
/- THE CELL 'sum', in the pinned program and in every row, IS THE sha256 OF THE DUMP (.gsa) THAT YtgfbohmehhhbeaaProg.lean LOADS. Nothing in Lean hashes anything: it is a label: what it is worth is what the hold of that sum in a sandbox is worth. -/
noncomputable def Try.pinned : Pinned := { name := "ytgfbohmehhhbeaa", sum := "10ce05df90c73c4134b1c7d28b735859a294bf25a95ed256514e18a4599ac1df", checked := Try.checked }
namespace Rows
def none {H : Type} : Left H := { results := [], args := [] }

/-- 'middenlaw06.PilePlays': WHATEVER THE INPUT: true; the input reads as it did. -/
def pilePlaysSpec : ChangeSpec := { name := "pilePlays", fn := fun _ => fun
  | [d1, d2, d3, d4, d5] => { results := [.lit (.bool true)], args := [d1, d2, d3, d4, d5] }
  | _ => none }
def pilePlaysRow : OpenClaim := { program := "ytgfbohmehhhbeaa", sum := "10ce05df90c73c4134b1c7d28b735859a294bf25a95ed256514e18a4599ac1df", func := "midden/middenlaw06.PilePlays", spec := "pilePlays", inPlace := ["sync/atomic.StoreUint64", "sync/atomic.LoadUint64"], unfollowed := true, recurses := true, leaving := true, apart := false }
def PilePlaysSaid : Prop := pilePlaysRow.holds Try.pinned (OpenSpec.ofChange pilePlaysSpec)

/-- ITS FALSE NEIGHBOUR: 'it returns false'. Refute it at one input. -/
def pilePlaysWrong : ChangeSpec := { name := "pilePlays", fn := fun _ => fun
  | [d1, d2, d3, d4, d5] => { results := [.lit (.bool false)], args := [d1, d2, d3, d4, d5] }
  | _ => none }
def PilePlaysWrongFalsely : Prop := pilePlaysRow.holds Try.pinned (OpenSpec.ofChange pilePlaysWrong)

/-- 'middenlaw06.PileMakes': WHATEVER THE INPUT: true; the input reads as it did. -/
def pileMakesSpec : ChangeSpec := { name := "pileMakes", fn := fun _ => fun
  | [d1, d2, d3] => { results := [.lit (.bool true)], args := [d1, d2, d3] }
  | _ => none }
def pileMakesRow : OpenClaim := { program := "ytgfbohmehhhbeaa", sum := "10ce05df90c73c4134b1c7d28b735859a294bf25a95ed256514e18a4599ac1df", func := "midden/middenlaw06.PileMakes", spec := "pileMakes", inPlace := ["sync/atomic.StoreUint64", "sync/atomic.LoadUint64", "(*sync.WaitGroup).Add", "internal/race.ReleaseMerge", "internal/race.Disable", "internal/race.Enable", "internal/synctest.IsInBubble", "internal/synctest.Associate[sync.WaitGroup]", "sync.fatal", "sync/atomic.OrUint64", "sync/atomic.AddUint64", "internal/race.Read", "internal/synctest.Disassociate[sync.WaitGroup]", "sync.runtime_Semrelease", "(*sync.WaitGroup).Done", "(*sync.WaitGroup).Go", "(*sync.WaitGroup).Go$1", "(*sync.WaitGroup).Go$1$1", "(*sync.WaitGroup).Wait", "internal/race.Acquire", "internal/synctest.IsAssociated[sync.WaitGroup]", "sync/atomic.CompareAndSwapUint64", "internal/race.Write", "sync.runtime_SemacquireWaitGroup"], unfollowed := true, recurses := true, leaving := true, apart := false }
def PileMakesSaid : Prop := pileMakesRow.holds Try.pinned (OpenSpec.ofChange pileMakesSpec)

/-- ITS FALSE NEIGHBOUR: 'it returns false'. Refute it at one input. -/
def pileMakesWrong : ChangeSpec := { name := "pileMakes", fn := fun _ => fun
  | [d1, d2, d3] => { results := [.lit (.bool false)], args := [d1, d2, d3] }
  | _ => none }
def PileMakesWrongFalsely : Prop := pileMakesRow.holds Try.pinned (OpenSpec.ofChange pileMakesWrong)

/-- 'middenlaw06.PileOrder': WHATEVER THE INPUT: true; the input reads as it did. -/
def pileOrderSpec : ChangeSpec := { name := "pileOrder", fn := fun _ => fun
  | [d1, d2, d3, d4] => { results := [.lit (.bool true)], args := [d1, d2, d3, d4] }
  | _ => none }
def pileOrderRow : OpenClaim := { program := "ytgfbohmehhhbeaa", sum := "10ce05df90c73c4134b1c7d28b735859a294bf25a95ed256514e18a4599ac1df", func := "midden/middenlaw06.PileOrder", spec := "pileOrder", inPlace := ["sync/atomic.StoreUint64", "sync/atomic.LoadUint64"], unfollowed := true, recurses := true, leaving := true, apart := false }
def PileOrderSaid : Prop := pileOrderRow.holds Try.pinned (OpenSpec.ofChange pileOrderSpec)

/-- ITS FALSE NEIGHBOUR: 'it returns false'. Refute it at one input. -/
def pileOrderWrong : ChangeSpec := { name := "pileOrder", fn := fun _ => fun
  | [d1, d2, d3, d4] => { results := [.lit (.bool false)], args := [d1, d2, d3, d4] }
  | _ => none }
def PileOrderWrongFalsely : Prop := pileOrderRow.holds Try.pinned (OpenSpec.ofChange pileOrderWrong)

/-- 'middenlaw06.PileKept': WHATEVER THE INPUT: true; the input reads as it did. -/
def pileKeptSpec : ChangeSpec := { name := "pileKept", fn := fun _ => fun
  | [d1, d2, d3] => { results := [.lit (.bool true)], args := [d1, d2, d3] }
  | _ => none }
def pileKeptRow : OpenClaim := { program := "ytgfbohmehhhbeaa", sum := "10ce05df90c73c4134b1c7d28b735859a294bf25a95ed256514e18a4599ac1df", func := "midden/middenlaw06.PileKept", spec := "pileKept", inPlace := ["sync/atomic.StoreUint64", "sync/atomic.LoadUint64"], unfollowed := true, recurses := true, leaving := true, apart := false }
def PileKeptSaid : Prop := pileKeptRow.holds Try.pinned (OpenSpec.ofChange pileKeptSpec)

/-- ITS FALSE NEIGHBOUR: 'it returns false'. Refute it at one input. -/
def pileKeptWrong : ChangeSpec := { name := "pileKept", fn := fun _ => fun
  | [d1, d2, d3] => { results := [.lit (.bool false)], args := [d1, d2, d3] }
  | _ => none }
def PileKeptWrongFalsely : Prop := pileKeptRow.holds Try.pinned (OpenSpec.ofChange pileKeptWrong)

/-- 'middenlaw04.OncePlays': WHATEVER THE INPUT: true; the input reads as it did. -/
def oncePlaysSpec : ChangeSpec := { name := "oncePlays", fn := fun _ => fun
  | [d] => { results := [.lit (.bool true)], args := [d] }
  | _ => none }
def oncePlaysRow : OpenClaim := { program := "ytgfbohmehhhbeaa", sum := "10ce05df90c73c4134b1c7d28b735859a294bf25a95ed256514e18a4599ac1df", func := "midden/middenlaw04.OncePlays", spec := "oncePlays", inPlace := ["sync/atomic.StoreUint64", "sync/atomic.LoadUint64"], unfollowed := true, recurses := true, leaving := true, apart := false }
def OncePlaysSaid : Prop := oncePlaysRow.holds Try.pinned (OpenSpec.ofChange oncePlaysSpec)

/-- ITS FALSE NEIGHBOUR: 'it returns false'. Refute it at one input. -/
def oncePlaysWrong : ChangeSpec := { name := "oncePlays", fn := fun _ => fun
  | [d] => { results := [.lit (.bool false)], args := [d] }
  | _ => none }
def OncePlaysWrongFalsely : Prop := oncePlaysRow.holds Try.pinned (OpenSpec.ofChange oncePlaysWrong)

/-- 'middenlaw04.OnceSettled': WHATEVER THE INPUT: true; the input reads as it did. -/
def onceSettledSpec : ChangeSpec := { name := "onceSettled", fn := fun _ => fun
  | [d1, d2, d3] => { results := [.lit (.bool true)], args := [d1, d2, d3] }
  | _ => none }
def onceSettledRow : OpenClaim := { program := "ytgfbohmehhhbeaa", sum := "10ce05df90c73c4134b1c7d28b735859a294bf25a95ed256514e18a4599ac1df", func := "midden/middenlaw04.OnceSettled", spec := "onceSettled", inPlace := ["sync/atomic.StoreUint64", "sync/atomic.LoadUint64"], unfollowed := true, recurses := true, leaving := true, apart := false }
def OnceSettledSaid : Prop := onceSettledRow.holds Try.pinned (OpenSpec.ofChange onceSettledSpec)

/-- ITS FALSE NEIGHBOUR: 'it returns false'. Refute it at one input. -/
def onceSettledWrong : ChangeSpec := { name := "onceSettled", fn := fun _ => fun
  | [d1, d2, d3] => { results := [.lit (.bool false)], args := [d1, d2, d3] }
  | _ => none }
def OnceSettledWrongFalsely : Prop := onceSettledRow.holds Try.pinned (OpenSpec.ofChange onceSettledWrong)

/- THE SECOND FORM. 'bulk': how many values and letters a reading holds, each counted each time it is reached (what is shared counts as often as it is met; a slice's spare places count too). A statement '..UptoSaid' is the law's where the arguments, and the package variables that the reading takes, are together of bulk at most 1048576: NARROWER than '..Said'. Prove '..Said' where nothing that the law and all that it calls make is longer than what came in: it says more and counts as full. Else prove '..UptoSaid'. A law counts once. -/
mutual
def uptoBulk {H : Type} : DataW H → Nat
  | .lit (.string bytes) => bytes.length + 1
  | .lit _ => 1
  | .nil => 1
  | .ptr d => uptoBulk d + 1
  | .slice elems spare => uptoBulkAll elems + uptoBulkAll spare + 1
  | .agg parts => uptoBulkAll parts + 1
  | .iface _ d => uptoBulk d + 1
  | .map entries => uptoBulkEntries entries + 1
  | .held _ => 1
def uptoBulkAll {H : Type} : List (DataW H) → Nat
  | [] => 0
  | d :: r => uptoBulk d + uptoBulkAll r
def uptoBulkEntries {H : Type} : List (Lit × DataW H) → Nat
  | [] => 0
  | x :: r => uptoBulkEntry x + uptoBulkEntries r
def uptoBulkEntry {H : Type} : Lit × DataW H → Nat
  | (.string bytes, d) => bytes.length + uptoBulk d + 1
  | (_, d) => uptoBulk d + 1
 end
def uptoSmall : (H : Type) → List (DataW H) → Bool := fun _ ds => decide (uptoBulkAll ds ≤ 1048576)
def OpenSpec.upto (s : _root_.Go.ChangeSpec) : _root_.Go.OpenSpec := { _root_.Go.OpenSpec.ofChange s with cond := some uptoSmall }

/-- 'middenlaw06.PilePlays', WHERE WHAT IT READS IS OF BULK AT MOST 1048576: true; the input reads as it did. -/
def pilePlaysUptoRow : OpenClaim := { program := "ytgfbohmehhhbeaa", sum := "10ce05df90c73c4134b1c7d28b735859a294bf25a95ed256514e18a4599ac1df", func := "midden/middenlaw06.PilePlays", spec := "pilePlays", inPlace := ["sync/atomic.StoreUint64", "sync/atomic.LoadUint64"], unfollowed := true, recurses := true, leaving := true, apart := false, narrowed := true }
def PilePlaysUptoSaid : Prop := pilePlaysUptoRow.holds Try.pinned (OpenSpec.upto pilePlaysSpec)

/-- 'middenlaw06.PileMakes', WHERE WHAT IT READS IS OF BULK AT MOST 1048576: true; the input reads as it did. -/
def pileMakesUptoRow : OpenClaim := { program := "ytgfbohmehhhbeaa", sum := "10ce05df90c73c4134b1c7d28b735859a294bf25a95ed256514e18a4599ac1df", func := "midden/middenlaw06.PileMakes", spec := "pileMakes", inPlace := ["sync/atomic.StoreUint64", "sync/atomic.LoadUint64", "(*sync.WaitGroup).Add", "internal/race.ReleaseMerge", "internal/race.Disable", "internal/race.Enable", "internal/synctest.IsInBubble", "internal/synctest.Associate[sync.WaitGroup]", "sync.fatal", "sync/atomic.OrUint64", "sync/atomic.AddUint64", "internal/race.Read", "internal/synctest.Disassociate[sync.WaitGroup]", "sync.runtime_Semrelease", "(*sync.WaitGroup).Done", "(*sync.WaitGroup).Go", "(*sync.WaitGroup).Go$1", "(*sync.WaitGroup).Go$1$1", "(*sync.WaitGroup).Wait", "internal/race.Acquire", "internal/synctest.IsAssociated[sync.WaitGroup]", "sync/atomic.CompareAndSwapUint64", "internal/race.Write", "sync.runtime_SemacquireWaitGroup"], unfollowed := true, recurses := true, leaving := true, apart := false, narrowed := true }
def PileMakesUptoSaid : Prop := pileMakesUptoRow.holds Try.pinned (OpenSpec.upto pileMakesSpec)

/-- 'middenlaw06.PileOrder', WHERE WHAT IT READS IS OF BULK AT MOST 1048576: true; the input reads as it did. -/
def pileOrderUptoRow : OpenClaim := { program := "ytgfbohmehhhbeaa", sum := "10ce05df90c73c4134b1c7d28b735859a294bf25a95ed256514e18a4599ac1df", func := "midden/middenlaw06.PileOrder", spec := "pileOrder", inPlace := ["sync/atomic.StoreUint64", "sync/atomic.LoadUint64"], unfollowed := true, recurses := true, leaving := true, apart := false, narrowed := true }
def PileOrderUptoSaid : Prop := pileOrderUptoRow.holds Try.pinned (OpenSpec.upto pileOrderSpec)

/-- 'middenlaw06.PileKept', WHERE WHAT IT READS IS OF BULK AT MOST 1048576: true; the input reads as it did. -/
def pileKeptUptoRow : OpenClaim := { program := "ytgfbohmehhhbeaa", sum := "10ce05df90c73c4134b1c7d28b735859a294bf25a95ed256514e18a4599ac1df", func := "midden/middenlaw06.PileKept", spec := "pileKept", inPlace := ["sync/atomic.StoreUint64", "sync/atomic.LoadUint64"], unfollowed := true, recurses := true, leaving := true, apart := false, narrowed := true }
def PileKeptUptoSaid : Prop := pileKeptUptoRow.holds Try.pinned (OpenSpec.upto pileKeptSpec)

/-- 'middenlaw04.OncePlays', WHERE WHAT IT READS IS OF BULK AT MOST 1048576: true; the input reads as it did. -/
def oncePlaysUptoRow : OpenClaim := { program := "ytgfbohmehhhbeaa", sum := "10ce05df90c73c4134b1c7d28b735859a294bf25a95ed256514e18a4599ac1df", func := "midden/middenlaw04.OncePlays", spec := "oncePlays", inPlace := ["sync/atomic.StoreUint64", "sync/atomic.LoadUint64"], unfollowed := true, recurses := true, leaving := true, apart := false, narrowed := true }
def OncePlaysUptoSaid : Prop := oncePlaysUptoRow.holds Try.pinned (OpenSpec.upto oncePlaysSpec)

/-- 'middenlaw04.OnceSettled', WHERE WHAT IT READS IS OF BULK AT MOST 1048576: true; the input reads as it did. -/
def onceSettledUptoRow : OpenClaim := { program := "ytgfbohmehhhbeaa", sum := "10ce05df90c73c4134b1c7d28b735859a294bf25a95ed256514e18a4599ac1df", func := "midden/middenlaw04.OnceSettled", spec := "onceSettled", inPlace := ["sync/atomic.StoreUint64", "sync/atomic.LoadUint64"], unfollowed := true, recurses := true, leaving := true, apart := false, narrowed := true }
def OnceSettledUptoSaid : Prop := onceSettledUptoRow.holds Try.pinned (OpenSpec.upto onceSettledSpec)

end Rows
end Go.Proofs.Ytgfbohmehhhbeaa
