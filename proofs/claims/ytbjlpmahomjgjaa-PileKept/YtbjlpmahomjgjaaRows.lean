/-
  No cell of these rows narrows 'for every input' (looked for: loops, veiled, ifaces, maps, wideKeys, modest, calm, conditions, laid).
  DERIVED. THE GIVEN ROWS OF THIS SEAT. 6 by the template 'for every input the law returns true; each argument reads behind the call as it read before'; 0 by the template 'total and deterministic' (their statements: YtbjlpmahomjgjaaTotals.lean).
  GIVEN WITH THE SEED: the statements are not yours to turn. If you find one false, say at which input.
  Laid BY PROGRAM, IN A SANDBOX (cutbox-rows.mjs): the forced cells as the released guide's own fill.sh prints them over the translation d4f62771e4461b3d… (all of the seat's roots in one cut). By AI agents, Wed Nov 11 2026. No macro, syntax, notation, axiom, sorry.
-/
import Derived.Test.YtbjlpmahomjgjaaChecked
import GoSem.Claim
import GoSem.ClaimJoined
import GoSem.ClaimMapViews
import Derived.JoinedTies
import Derived.KernelRfl
namespace Go.Proofs.Ytbjlpmahomjgjaa
/- THE CELL 'sum', in the pinned program and in every row, IS THE sha256 OF THE DUMP (.gsa) THAT YtbjlpmahomjgjaaProg.lean LOADS. Nothing in Lean hashes anything: it is a label: what it is worth is what the hold of that sum in a sandbox is worth. -/
noncomputable def Try.pinned : Pinned := { name := "ytbjlpmahomjgjaa", sum := "d4f62771e4461b3d25b9238cdf75040d1097e2a985850dbe07d086637c00bef4", checked := Try.checked }
namespace Rows
def none {H : Type} : Left H := { results := [], args := [] }

/-- 'middenlaw09.BellPlays': WHATEVER THE INPUT: true; the input reads as it did. -/
def bellPlaysSpec : ChangeSpec := { name := "bellPlays", fn := fun _ => fun
  | [d1, d2, d3, d4, d5] => { results := [.lit (.bool true)], args := [d1, d2, d3, d4, d5] }
  | _ => none }
def bellPlaysRow : OpenClaim := { program := "ytbjlpmahomjgjaa", sum := "d4f62771e4461b3d25b9238cdf75040d1097e2a985850dbe07d086637c00bef4", func := "midden/middenlaw09.BellPlays", spec := "bellPlays", inPlace := ["sync/atomic.StoreUint64", "sync/atomic.LoadUint64"], unfollowed := true, recurses := true, apart := false }
def BellPlaysSaid : Prop := bellPlaysRow.holds Try.pinned (OpenSpec.ofChange bellPlaysSpec)

/-- ITS FALSE NEIGHBOUR: 'it returns false'. Refute it at one input. -/
def bellPlaysWrong : ChangeSpec := { name := "bellPlays", fn := fun _ => fun
  | [d1, d2, d3, d4, d5] => { results := [.lit (.bool false)], args := [d1, d2, d3, d4, d5] }
  | _ => none }
def BellPlaysWrongFalsely : Prop := bellPlaysRow.holds Try.pinned (OpenSpec.ofChange bellPlaysWrong)

/-- 'middenlaw05.TallyKeeps': WHATEVER THE INPUT: true; the input reads as it did. -/
def tallyKeepsSpec : ChangeSpec := { name := "tallyKeeps", fn := fun _ => fun
  | [d] => { results := [.lit (.bool true)], args := [d] }
  | _ => none }
def tallyKeepsRow : OpenClaim := { program := "ytbjlpmahomjgjaa", sum := "d4f62771e4461b3d25b9238cdf75040d1097e2a985850dbe07d086637c00bef4", func := "midden/middenlaw05.TallyKeeps", spec := "tallyKeeps", inPlace := ["sync/atomic.StoreUint64", "sync/atomic.LoadUint64"], unfollowed := true, recurses := true, apart := false }
def TallyKeepsSaid : Prop := tallyKeepsRow.holds Try.pinned (OpenSpec.ofChange tallyKeepsSpec)

/-- ITS FALSE NEIGHBOUR: 'it returns false'. Refute it at one input. -/
def tallyKeepsWrong : ChangeSpec := { name := "tallyKeeps", fn := fun _ => fun
  | [d] => { results := [.lit (.bool false)], args := [d] }
  | _ => none }
def TallyKeepsWrongFalsely : Prop := tallyKeepsRow.holds Try.pinned (OpenSpec.ofChange tallyKeepsWrong)

/-- 'middenlaw08.DealKeeps': WHATEVER THE INPUT: true; the input reads as it did. -/
def dealKeepsSpec : ChangeSpec := { name := "dealKeeps", fn := fun _ => fun
  | [d] => { results := [.lit (.bool true)], args := [d] }
  | _ => none }
def dealKeepsRow : OpenClaim := { program := "ytbjlpmahomjgjaa", sum := "d4f62771e4461b3d25b9238cdf75040d1097e2a985850dbe07d086637c00bef4", func := "midden/middenlaw08.DealKeeps", spec := "dealKeeps", inPlace := ["sync/atomic.StoreUint64", "sync/atomic.LoadUint64"], unfollowed := true, recurses := true, apart := false }
def DealKeepsSaid : Prop := dealKeepsRow.holds Try.pinned (OpenSpec.ofChange dealKeepsSpec)

/-- ITS FALSE NEIGHBOUR: 'it returns false'. Refute it at one input. -/
def dealKeepsWrong : ChangeSpec := { name := "dealKeeps", fn := fun _ => fun
  | [d] => { results := [.lit (.bool false)], args := [d] }
  | _ => none }
def DealKeepsWrongFalsely : Prop := dealKeepsRow.holds Try.pinned (OpenSpec.ofChange dealKeepsWrong)

/-- 'middenlaw06.PileKept': WHATEVER THE INPUT: true; the input reads as it did. -/
def pileKeptSpec : ChangeSpec := { name := "pileKept", fn := fun _ => fun
  | [d1, d2, d3] => { results := [.lit (.bool true)], args := [d1, d2, d3] }
  | _ => none }
def pileKeptRow : OpenClaim := { program := "ytbjlpmahomjgjaa", sum := "d4f62771e4461b3d25b9238cdf75040d1097e2a985850dbe07d086637c00bef4", func := "midden/middenlaw06.PileKept", spec := "pileKept", inPlace := ["sync/atomic.StoreUint64", "sync/atomic.LoadUint64"], unfollowed := true, recurses := true, apart := false }
def PileKeptSaid : Prop := pileKeptRow.holds Try.pinned (OpenSpec.ofChange pileKeptSpec)

/-- ITS FALSE NEIGHBOUR: 'it returns false'. Refute it at one input. -/
def pileKeptWrong : ChangeSpec := { name := "pileKept", fn := fun _ => fun
  | [d1, d2, d3] => { results := [.lit (.bool false)], args := [d1, d2, d3] }
  | _ => none }
def PileKeptWrongFalsely : Prop := pileKeptRow.holds Try.pinned (OpenSpec.ofChange pileKeptWrong)

/-- 'middenlaw08.DealAlone': WHATEVER THE INPUT: true; the input reads as it did. -/
def dealAloneSpec : ChangeSpec := { name := "dealAlone", fn := fun _ => fun
  | [d1, d2] => { results := [.lit (.bool true)], args := [d1, d2] }
  | _ => none }
def dealAloneRow : OpenClaim := { program := "ytbjlpmahomjgjaa", sum := "d4f62771e4461b3d25b9238cdf75040d1097e2a985850dbe07d086637c00bef4", func := "midden/middenlaw08.DealAlone", spec := "dealAlone", inPlace := ["sync/atomic.StoreUint64", "sync/atomic.LoadUint64"], unfollowed := true, recurses := true, apart := false }
def DealAloneSaid : Prop := dealAloneRow.holds Try.pinned (OpenSpec.ofChange dealAloneSpec)

/-- ITS FALSE NEIGHBOUR: 'it returns false'. Refute it at one input. -/
def dealAloneWrong : ChangeSpec := { name := "dealAlone", fn := fun _ => fun
  | [d1, d2] => { results := [.lit (.bool false)], args := [d1, d2] }
  | _ => none }
def DealAloneWrongFalsely : Prop := dealAloneRow.holds Try.pinned (OpenSpec.ofChange dealAloneWrong)

/-- 'middenlaw09.BellWaits': WHATEVER THE INPUT: true; the input reads as it did. -/
def bellWaitsSpec : ChangeSpec := { name := "bellWaits", fn := fun _ => fun
  | [d1, d2, d3, d4] => { results := [.lit (.bool true)], args := [d1, d2, d3, d4] }
  | _ => none }
def bellWaitsRow : OpenClaim := { program := "ytbjlpmahomjgjaa", sum := "d4f62771e4461b3d25b9238cdf75040d1097e2a985850dbe07d086637c00bef4", func := "midden/middenlaw09.BellWaits", spec := "bellWaits", inPlace := ["sync/atomic.StoreUint64", "sync/atomic.LoadUint64"], unfollowed := true, recurses := true, apart := false }
def BellWaitsSaid : Prop := bellWaitsRow.holds Try.pinned (OpenSpec.ofChange bellWaitsSpec)

/-- ITS FALSE NEIGHBOUR: 'it returns false'. Refute it at one input. -/
def bellWaitsWrong : ChangeSpec := { name := "bellWaits", fn := fun _ => fun
  | [d1, d2, d3, d4] => { results := [.lit (.bool false)], args := [d1, d2, d3, d4] }
  | _ => none }
def BellWaitsWrongFalsely : Prop := bellWaitsRow.holds Try.pinned (OpenSpec.ofChange bellWaitsWrong)

/- THE SECOND FORM. 'bulk': how many values and letters a reading holds, each counted each time it is reached (what is shared counts as often as it is met; a slice's spare places count too). A statement '..UptoSaid' is the law's where the arguments, and the package variables that the reading takes, are together of bulk at most 1048576: NARROWER than '..Said'. Prove '..Said' where nothing that the law and all that it calls make is longer than what came in: it says more and counts as full. Else prove '..UptoSaid'. A law counts once. -/
mutual
def uptoBulk {H : Type} : DataW H → Nat
  | .lit (.string bytes) => bytes.length + 1
  | .lit _ => 1
  | .nil => 1
  | .ptr d => uptoBulk d + 1
  | .slice elems spare => uptoBulkAll elems + uptoBulkAll spare + 1
  | .agg parts => uptoBulkAll parts + 1
  | .iface _ d => uptoBulk d + 1
  | .map entries => uptoBulkEntries entries + 1
  | .held _ => 1
def uptoBulkAll {H : Type} : List (DataW H) → Nat
  | [] => 0
  | d :: r => uptoBulk d + uptoBulkAll r
def uptoBulkEntries {H : Type} : List (Lit × DataW H) → Nat
  | [] => 0
  | x :: r => uptoBulkEntry x + uptoBulkEntries r
def uptoBulkEntry {H : Type} : Lit × DataW H → Nat
  | (.string bytes, d) => bytes.length + uptoBulk d + 1
  | (_, d) => uptoBulk d + 1
 end
def uptoSmall : (H : Type) → List (DataW H) → Bool := fun _ ds => decide (uptoBulkAll ds ≤ 1048576)
def OpenSpec.upto (s : _root_.Go.ChangeSpec) : _root_.Go.OpenSpec := { _root_.Go.OpenSpec.ofChange s with cond := some uptoSmall }

/-- 'middenlaw09.BellPlays', WHERE WHAT IT READS IS OF BULK AT MOST 1048576: true; the input reads as it did. -/
def bellPlaysUptoRow : OpenClaim := { program := "ytbjlpmahomjgjaa", sum := "d4f62771e4461b3d25b9238cdf75040d1097e2a985850dbe07d086637c00bef4", func := "midden/middenlaw09.BellPlays", spec := "bellPlays", inPlace := ["sync/atomic.StoreUint64", "sync/atomic.LoadUint64"], unfollowed := true, recurses := true, apart := false, narrowed := true }
def BellPlaysUptoSaid : Prop := bellPlaysUptoRow.holds Try.pinned (OpenSpec.upto bellPlaysSpec)

/-- 'middenlaw05.TallyKeeps', WHERE WHAT IT READS IS OF BULK AT MOST 1048576: true; the input reads as it did. -/
def tallyKeepsUptoRow : OpenClaim := { program := "ytbjlpmahomjgjaa", sum := "d4f62771e4461b3d25b9238cdf75040d1097e2a985850dbe07d086637c00bef4", func := "midden/middenlaw05.TallyKeeps", spec := "tallyKeeps", inPlace := ["sync/atomic.StoreUint64", "sync/atomic.LoadUint64"], unfollowed := true, recurses := true, apart := false, narrowed := true }
def TallyKeepsUptoSaid : Prop := tallyKeepsUptoRow.holds Try.pinned (OpenSpec.upto tallyKeepsSpec)

/-- 'middenlaw08.DealKeeps', WHERE WHAT IT READS IS OF BULK AT MOST 1048576: true; the input reads as it did. -/
def dealKeepsUptoRow : OpenClaim := { program := "ytbjlpmahomjgjaa", sum := "d4f62771e4461b3d25b9238cdf75040d1097e2a985850dbe07d086637c00bef4", func := "midden/middenlaw08.DealKeeps", spec := "dealKeeps", inPlace := ["sync/atomic.StoreUint64", "sync/atomic.LoadUint64"], unfollowed := true, recurses := true, apart := false, narrowed := true }
def DealKeepsUptoSaid : Prop := dealKeepsUptoRow.holds Try.pinned (OpenSpec.upto dealKeepsSpec)

/-- 'middenlaw06.PileKept', WHERE WHAT IT READS IS OF BULK AT MOST 1048576: true; the input reads as it did. -/
def pileKeptUptoRow : OpenClaim := { program := "ytbjlpmahomjgjaa", sum := "d4f62771e4461b3d25b9238cdf75040d1097e2a985850dbe07d086637c00bef4", func := "midden/middenlaw06.PileKept", spec := "pileKept", inPlace := ["sync/atomic.StoreUint64", "sync/atomic.LoadUint64"], unfollowed := true, recurses := true, apart := false, narrowed := true }
def PileKeptUptoSaid : Prop := pileKeptUptoRow.holds Try.pinned (OpenSpec.upto pileKeptSpec)

/-- 'middenlaw08.DealAlone', WHERE WHAT IT READS IS OF BULK AT MOST 1048576: true; the input reads as it did. -/
def dealAloneUptoRow : OpenClaim := { program := "ytbjlpmahomjgjaa", sum := "d4f62771e4461b3d25b9238cdf75040d1097e2a985850dbe07d086637c00bef4", func := "midden/middenlaw08.DealAlone", spec := "dealAlone", inPlace := ["sync/atomic.StoreUint64", "sync/atomic.LoadUint64"], unfollowed := true, recurses := true, apart := false, narrowed := true }
def DealAloneUptoSaid : Prop := dealAloneUptoRow.holds Try.pinned (OpenSpec.upto dealAloneSpec)

/-- 'middenlaw09.BellWaits', WHERE WHAT IT READS IS OF BULK AT MOST 1048576: true; the input reads as it did. -/
def bellWaitsUptoRow : OpenClaim := { program := "ytbjlpmahomjgjaa", sum := "d4f62771e4461b3d25b9238cdf75040d1097e2a985850dbe07d086637c00bef4", func := "midden/middenlaw09.BellWaits", spec := "bellWaits", inPlace := ["sync/atomic.StoreUint64", "sync/atomic.LoadUint64"], unfollowed := true, recurses := true, apart := false, narrowed := true }
def BellWaitsUptoSaid : Prop := bellWaitsUptoRow.holds Try.pinned (OpenSpec.upto bellWaitsSpec)

end Rows
end Go.Proofs.Ytbjlpmahomjgjaa
