/-
  No cell of these rows narrows 'for every input' (looked for: loops, veiled, ifaces, maps, wideKeys, modest, calm, conditions, laid).
  DERIVED. THE GIVEN ROWS OF THIS SEAT. 6 by the template 'for every input the law returns true; each argument reads behind the call as it read before'; 0 by the template 'total and deterministic' (their statements: YtehbkkmhnfgcmaaTotals.lean).
  GIVEN WITH THE SEED: the statements are not yours to turn. If you find one false, say at which input.
  Laid BY PROGRAM, IN A SANDBOX (cutbox-rows.mjs): the forced cells as the released guide's own fill.sh prints them over the translation 2954d5e6ba6abde4… (all of the seat's roots in one cut). By AI agents, Wed Nov 11 2026. No macro, syntax, notation, axiom, sorry.
-/
import Derived.Test.YtehbkkmhnfgcmaaChecked
import GoSem.Claim
import GoSem.ClaimJoined
import GoSem.ClaimMapViews
import Derived.JoinedTies
import Derived.KernelRfl
namespace Go.Proofs.Ytehbkkmhnfgcmaa
/- THE CELL 'sum', in the pinned program and in every row, IS THE sha256 OF THE DUMP (.gsa) THAT YtehbkkmhnfgcmaaProg.lean LOADS. Nothing in Lean hashes anything: it is a label: what it is worth is what the hold of that sum in a sandbox is worth. -/
noncomputable def Try.pinned : Pinned := { name := "ytehbkkmhnfgcmaa", sum := "2954d5e6ba6abde48c825a7216685833660119c795a35e6f2a932b1c6db7755b", checked := Try.checked }
namespace Rows
def none {H : Type} : Left H := { results := [], args := [] }

/-- 'middenlaw07.BeltPlays': WHATEVER THE INPUT: true; the input reads as it did. -/
def beltPlaysSpec : ChangeSpec := { name := "beltPlays", fn := fun _ => fun
  | [d] => { results := [.lit (.bool true)], args := [d] }
  | _ => none }
def beltPlaysRow : OpenClaim := { program := "ytehbkkmhnfgcmaa", sum := "2954d5e6ba6abde48c825a7216685833660119c795a35e6f2a932b1c6db7755b", func := "midden/middenlaw07.BeltPlays", spec := "beltPlays", inPlace := ["sync/atomic.StoreUint64", "sync/atomic.LoadUint64"], unfollowed := true, recurses := true, apart := false }
def BeltPlaysSaid : Prop := beltPlaysRow.holds Try.pinned (OpenSpec.ofChange beltPlaysSpec)

/-- ITS FALSE NEIGHBOUR: 'it returns false'. Refute it at one input. -/
def beltPlaysWrong : ChangeSpec := { name := "beltPlays", fn := fun _ => fun
  | [d] => { results := [.lit (.bool false)], args := [d] }
  | _ => none }
def BeltPlaysWrongFalsely : Prop := beltPlaysRow.holds Try.pinned (OpenSpec.ofChange beltPlaysWrong)

/-- 'middenlaw07.BeltTasks': WHATEVER THE INPUT: true; the input reads as it did. -/
def beltTasksSpec : ChangeSpec := { name := "beltTasks", fn := fun _ => fun
  | [d1, d2, d3] => { results := [.lit (.bool true)], args := [d1, d2, d3] }
  | _ => none }
def beltTasksRow : OpenClaim := { program := "ytehbkkmhnfgcmaa", sum := "2954d5e6ba6abde48c825a7216685833660119c795a35e6f2a932b1c6db7755b", func := "midden/middenlaw07.BeltTasks", spec := "beltTasks", inPlace := ["sync/atomic.StoreUint64", "sync/atomic.LoadUint64"], unfollowed := true, recurses := true, apart := false }
def BeltTasksSaid : Prop := beltTasksRow.holds Try.pinned (OpenSpec.ofChange beltTasksSpec)

/-- ITS FALSE NEIGHBOUR: 'it returns false'. Refute it at one input. -/
def beltTasksWrong : ChangeSpec := { name := "beltTasks", fn := fun _ => fun
  | [d1, d2, d3] => { results := [.lit (.bool false)], args := [d1, d2, d3] }
  | _ => none }
def BeltTasksWrongFalsely : Prop := beltTasksRow.holds Try.pinned (OpenSpec.ofChange beltTasksWrong)

/-- 'middenlaw07.BeltOrder': WHATEVER THE INPUT: true; the input reads as it did. -/
def beltOrderSpec : ChangeSpec := { name := "beltOrder", fn := fun _ => fun
  | [d1, d2, d3] => { results := [.lit (.bool true)], args := [d1, d2, d3] }
  | _ => none }
def beltOrderRow : OpenClaim := { program := "ytehbkkmhnfgcmaa", sum := "2954d5e6ba6abde48c825a7216685833660119c795a35e6f2a932b1c6db7755b", func := "midden/middenlaw07.BeltOrder", spec := "beltOrder", inPlace := ["sync/atomic.StoreUint64", "sync/atomic.LoadUint64"], unfollowed := true, recurses := true, apart := false }
def BeltOrderSaid : Prop := beltOrderRow.holds Try.pinned (OpenSpec.ofChange beltOrderSpec)

/-- ITS FALSE NEIGHBOUR: 'it returns false'. Refute it at one input. -/
def beltOrderWrong : ChangeSpec := { name := "beltOrder", fn := fun _ => fun
  | [d1, d2, d3] => { results := [.lit (.bool false)], args := [d1, d2, d3] }
  | _ => none }
def BeltOrderWrongFalsely : Prop := beltOrderRow.holds Try.pinned (OpenSpec.ofChange beltOrderWrong)

/-- 'middenlaw06.PileOrder': WHATEVER THE INPUT: true; the input reads as it did. -/
def pileOrderSpec : ChangeSpec := { name := "pileOrder", fn := fun _ => fun
  | [d1, d2, d3, d4] => { results := [.lit (.bool true)], args := [d1, d2, d3, d4] }
  | _ => none }
def pileOrderRow : OpenClaim := { program := "ytehbkkmhnfgcmaa", sum := "2954d5e6ba6abde48c825a7216685833660119c795a35e6f2a932b1c6db7755b", func := "midden/middenlaw06.PileOrder", spec := "pileOrder", inPlace := ["sync/atomic.StoreUint64", "sync/atomic.LoadUint64"], unfollowed := true, recurses := true, apart := false }
def PileOrderSaid : Prop := pileOrderRow.holds Try.pinned (OpenSpec.ofChange pileOrderSpec)

/-- ITS FALSE NEIGHBOUR: 'it returns false'. Refute it at one input. -/
def pileOrderWrong : ChangeSpec := { name := "pileOrder", fn := fun _ => fun
  | [d1, d2, d3, d4] => { results := [.lit (.bool false)], args := [d1, d2, d3, d4] }
  | _ => none }
def PileOrderWrongFalsely : Prop := pileOrderRow.holds Try.pinned (OpenSpec.ofChange pileOrderWrong)

/-- 'middenlaw06.PileKept': WHATEVER THE INPUT: true; the input reads as it did. -/
def pileKeptSpec : ChangeSpec := { name := "pileKept", fn := fun _ => fun
  | [d1, d2, d3] => { results := [.lit (.bool true)], args := [d1, d2, d3] }
  | _ => none }
def pileKeptRow : OpenClaim := { program := "ytehbkkmhnfgcmaa", sum := "2954d5e6ba6abde48c825a7216685833660119c795a35e6f2a932b1c6db7755b", func := "midden/middenlaw06.PileKept", spec := "pileKept", inPlace := ["sync/atomic.StoreUint64", "sync/atomic.LoadUint64"], unfollowed := true, recurses := true, apart := false }
def PileKeptSaid : Prop := pileKeptRow.holds Try.pinned (OpenSpec.ofChange pileKeptSpec)

/-- ITS FALSE NEIGHBOUR: 'it returns false'. Refute it at one input. -/
def pileKeptWrong : ChangeSpec := { name := "pileKept", fn := fun _ => fun
  | [d1, d2, d3] => { results := [.lit (.bool false)], args := [d1, d2, d3] }
  | _ => none }
def PileKeptWrongFalsely : Prop := pileKeptRow.holds Try.pinned (OpenSpec.ofChange pileKeptWrong)

/-- 'middenlaw04.OnceSettled': WHATEVER THE INPUT: true; the input reads as it did. -/
def onceSettledSpec : ChangeSpec := { name := "onceSettled", fn := fun _ => fun
  | [d1, d2, d3] => { results := [.lit (.bool true)], args := [d1, d2, d3] }
  | _ => none }
def onceSettledRow : OpenClaim := { program := "ytehbkkmhnfgcmaa", sum := "2954d5e6ba6abde48c825a7216685833660119c795a35e6f2a932b1c6db7755b", func := "midden/middenlaw04.OnceSettled", spec := "onceSettled", inPlace := ["sync/atomic.StoreUint64", "sync/atomic.LoadUint64"], unfollowed := true, recurses := true, apart := false }
def OnceSettledSaid : Prop := onceSettledRow.holds Try.pinned (OpenSpec.ofChange onceSettledSpec)

/-- ITS FALSE NEIGHBOUR: 'it returns false'. Refute it at one input. -/
def onceSettledWrong : ChangeSpec := { name := "onceSettled", fn := fun _ => fun
  | [d1, d2, d3] => { results := [.lit (.bool false)], args := [d1, d2, d3] }
  | _ => none }
def OnceSettledWrongFalsely : Prop := onceSettledRow.holds Try.pinned (OpenSpec.ofChange onceSettledWrong)

/- THE SECOND FORM. 'bulk': how many values and letters a reading holds, each counted each time it is reached (what is shared counts as often as it is met; a slice's spare places count too). A statement '..UptoSaid' is the law's where the arguments, and the package variables that the reading takes, are together of bulk at most 1048576: NARROWER than '..Said'. Prove '..Said' where nothing that the law and all that it calls make is longer than what came in: it says more and counts as full. Else prove '..UptoSaid'. A law counts once. -/
mutual
def uptoBulk {H : Type} : DataW H → Nat
  | .lit (.string bytes) => bytes.length + 1
  | .lit _ => 1
  | .nil => 1
  | .ptr d => uptoBulk d + 1
  | .slice elems spare => uptoBulkAll elems + uptoBulkAll spare + 1
  | .agg parts => uptoBulkAll parts + 1
  | .iface _ d => uptoBulk d + 1
  | .map entries => uptoBulkEntries entries + 1
  | .held _ => 1
def uptoBulkAll {H : Type} : List (DataW H) → Nat
  | [] => 0
  | d :: r => uptoBulk d + uptoBulkAll r
def uptoBulkEntries {H : Type} : List (Lit × DataW H) → Nat
  | [] => 0
  | x :: r => uptoBulkEntry x + uptoBulkEntries r
def uptoBulkEntry {H : Type} : Lit × DataW H → Nat
  | (.string bytes, d) => bytes.length + uptoBulk d + 1
  | (_, d) => uptoBulk d + 1
 end
def uptoSmall : (H : Type) → List (DataW H) → Bool := fun _ ds => decide (uptoBulkAll ds ≤ 1048576)
def OpenSpec.upto (s : _root_.Go.ChangeSpec) : _root_.Go.OpenSpec := { _root_.Go.OpenSpec.ofChange s with cond := some uptoSmall }

/-- 'middenlaw07.BeltPlays', WHERE WHAT IT READS IS OF BULK AT MOST 1048576: true; the input reads as it did. -/
def beltPlaysUptoRow : OpenClaim := { program := "ytehbkkmhnfgcmaa", sum := "2954d5e6ba6abde48c825a7216685833660119c795a35e6f2a932b1c6db7755b", func := "midden/middenlaw07.BeltPlays", spec := "beltPlays", inPlace := ["sync/atomic.StoreUint64", "sync/atomic.LoadUint64"], unfollowed := true, recurses := true, apart := false, narrowed := true }
def BeltPlaysUptoSaid : Prop := beltPlaysUptoRow.holds Try.pinned (OpenSpec.upto beltPlaysSpec)

/-- 'middenlaw07.BeltTasks', WHERE WHAT IT READS IS OF BULK AT MOST 1048576: true; the input reads as it did. -/
def beltTasksUptoRow : OpenClaim := { program := "ytehbkkmhnfgcmaa", sum := "2954d5e6ba6abde48c825a7216685833660119c795a35e6f2a932b1c6db7755b", func := "midden/middenlaw07.BeltTasks", spec := "beltTasks", inPlace := ["sync/atomic.StoreUint64", "sync/atomic.LoadUint64"], unfollowed := true, recurses := true, apart := false, narrowed := true }
def BeltTasksUptoSaid : Prop := beltTasksUptoRow.holds Try.pinned (OpenSpec.upto beltTasksSpec)

/-- 'middenlaw07.BeltOrder', WHERE WHAT IT READS IS OF BULK AT MOST 1048576: true; the input reads as it did. -/
def beltOrderUptoRow : OpenClaim := { program := "ytehbkkmhnfgcmaa", sum := "2954d5e6ba6abde48c825a7216685833660119c795a35e6f2a932b1c6db7755b", func := "midden/middenlaw07.BeltOrder", spec := "beltOrder", inPlace := ["sync/atomic.StoreUint64", "sync/atomic.LoadUint64"], unfollowed := true, recurses := true, apart := false, narrowed := true }
def BeltOrderUptoSaid : Prop := beltOrderUptoRow.holds Try.pinned (OpenSpec.upto beltOrderSpec)

/-- 'middenlaw06.PileOrder', WHERE WHAT IT READS IS OF BULK AT MOST 1048576: true; the input reads as it did. -/
def pileOrderUptoRow : OpenClaim := { program := "ytehbkkmhnfgcmaa", sum := "2954d5e6ba6abde48c825a7216685833660119c795a35e6f2a932b1c6db7755b", func := "midden/middenlaw06.PileOrder", spec := "pileOrder", inPlace := ["sync/atomic.StoreUint64", "sync/atomic.LoadUint64"], unfollowed := true, recurses := true, apart := false, narrowed := true }
def PileOrderUptoSaid : Prop := pileOrderUptoRow.holds Try.pinned (OpenSpec.upto pileOrderSpec)

/-- 'middenlaw06.PileKept', WHERE WHAT IT READS IS OF BULK AT MOST 1048576: true; the input reads as it did. -/
def pileKeptUptoRow : OpenClaim := { program := "ytehbkkmhnfgcmaa", sum := "2954d5e6ba6abde48c825a7216685833660119c795a35e6f2a932b1c6db7755b", func := "midden/middenlaw06.PileKept", spec := "pileKept", inPlace := ["sync/atomic.StoreUint64", "sync/atomic.LoadUint64"], unfollowed := true, recurses := true, apart := false, narrowed := true }
def PileKeptUptoSaid : Prop := pileKeptUptoRow.holds Try.pinned (OpenSpec.upto pileKeptSpec)

/-- 'middenlaw04.OnceSettled', WHERE WHAT IT READS IS OF BULK AT MOST 1048576: true; the input reads as it did. -/
def onceSettledUptoRow : OpenClaim := { program := "ytehbkkmhnfgcmaa", sum := "2954d5e6ba6abde48c825a7216685833660119c795a35e6f2a932b1c6db7755b", func := "midden/middenlaw04.OnceSettled", spec := "onceSettled", inPlace := ["sync/atomic.StoreUint64", "sync/atomic.LoadUint64"], unfollowed := true, recurses := true, apart := false, narrowed := true }
def OnceSettledUptoSaid : Prop := onceSettledUptoRow.holds Try.pinned (OpenSpec.upto onceSettledSpec)

end Rows
end Go.Proofs.Ytehbkkmhnfgcmaa
