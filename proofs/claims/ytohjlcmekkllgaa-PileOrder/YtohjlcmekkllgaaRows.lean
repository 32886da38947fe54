/-
  No cell of these rows narrows 'for every input' (looked for: loops, veiled, ifaces, maps, wideKeys, modest, calm, conditions, laid).
  DERIVED. THE GIVEN ROWS OF THIS SEAT. 6 by the template 'for every input the law returns true; each argument reads behind the call as it read before'; 0 by the template 'total and deterministic' (their statements: YtohjlcmekkllgaaTotals.lean).
  GIVEN WITH THE SEED: the statements are not yours to turn. If you find one false, say at which input.
  Laid BY PROGRAM, IN A SANDBOX (cutbox-rows.mjs): the forced cells as the released guide's own fill.sh prints them over the translation 1b3e6e5ea0c07c6e… (all of the seat's roots in one cut). By AI agents, Wed Nov 11 2026. No macro, syntax, notation, axiom, sorry.
-/
import Derived.Test.YtohjlcmekkllgaaChecked
import GoSem.Claim
import GoSem.ClaimJoined
import GoSem.ClaimMapViews
import Derived.JoinedTies
import Derived.KernelRfl
namespace Go.Proofs.Ytohjlcmekkllgaa
/- THE CELL 'sum', in the pinned program and in every row, IS THE sha256 OF THE DUMP (.gsa) THAT YtohjlcmekkllgaaProg.lean LOADS. Nothing in Lean hashes anything: it is a label: what it is worth is what the hold of that sum in a sandbox is worth. -/
noncomputable def Try.pinned : Pinned := { name := "ytohjlcmekkllgaa", sum := "1b3e6e5ea0c07c6ef1004772f50316d7fcf0b3ba7c884cbd6894da4c43d48e4e", checked := Try.checked }
namespace Rows
def none {H : Type} : Left H := { results := [], args := [] }

/-- 'middenlaw08.DealPlays': WHATEVER THE INPUT: true; the input reads as it did. -/
def dealPlaysSpec : ChangeSpec := { name := "dealPlays", fn := fun _ => fun
  | [d] => { results := [.lit (.bool true)], args := [d] }
  | _ => none }
def dealPlaysRow : OpenClaim := { program := "ytohjlcmekkllgaa", sum := "1b3e6e5ea0c07c6ef1004772f50316d7fcf0b3ba7c884cbd6894da4c43d48e4e", func := "midden/middenlaw08.DealPlays", spec := "dealPlays", inPlace := ["sync/atomic.StoreUint64", "sync/atomic.LoadUint64"], unfollowed := true, recurses := true, apart := false }
def DealPlaysSaid : Prop := dealPlaysRow.holds Try.pinned (OpenSpec.ofChange dealPlaysSpec)

/-- ITS FALSE NEIGHBOUR: 'it returns false'. Refute it at one input. -/
def dealPlaysWrong : ChangeSpec := { name := "dealPlays", fn := fun _ => fun
  | [d] => { results := [.lit (.bool false)], args := [d] }
  | _ => none }
def DealPlaysWrongFalsely : Prop := dealPlaysRow.holds Try.pinned (OpenSpec.ofChange dealPlaysWrong)

/-- 'middenlaw08.DealFaces': WHATEVER THE INPUT: true; the input reads as it did. -/
def dealFacesSpec : ChangeSpec := { name := "dealFaces", fn := fun _ => fun
  | [d1, d2, d3] => { results := [.lit (.bool true)], args := [d1, d2, d3] }
  | _ => none }
def dealFacesRow : OpenClaim := { program := "ytohjlcmekkllgaa", sum := "1b3e6e5ea0c07c6ef1004772f50316d7fcf0b3ba7c884cbd6894da4c43d48e4e", func := "midden/middenlaw08.DealFaces", spec := "dealFaces", inPlace := ["sync/atomic.StoreUint64", "sync/atomic.LoadUint64"], unfollowed := true, recurses := true, apart := false }
def DealFacesSaid : Prop := dealFacesRow.holds Try.pinned (OpenSpec.ofChange dealFacesSpec)

/-- ITS FALSE NEIGHBOUR: 'it returns false'. Refute it at one input. -/
def dealFacesWrong : ChangeSpec := { name := "dealFaces", fn := fun _ => fun
  | [d1, d2, d3] => { results := [.lit (.bool false)], args := [d1, d2, d3] }
  | _ => none }
def DealFacesWrongFalsely : Prop := dealFacesRow.holds Try.pinned (OpenSpec.ofChange dealFacesWrong)

/-- 'middenlaw08.DealKeeps': WHATEVER THE INPUT: true; the input reads as it did. -/
def dealKeepsSpec : ChangeSpec := { name := "dealKeeps", fn := fun _ => fun
  | [d] => { results := [.lit (.bool true)], args := [d] }
  | _ => none }
def dealKeepsRow : OpenClaim := { program := "ytohjlcmekkllgaa", sum := "1b3e6e5ea0c07c6ef1004772f50316d7fcf0b3ba7c884cbd6894da4c43d48e4e", func := "midden/middenlaw08.DealKeeps", spec := "dealKeeps", inPlace := ["sync/atomic.StoreUint64", "sync/atomic.LoadUint64"], unfollowed := true, recurses := true, apart := false }
def DealKeepsSaid : Prop := dealKeepsRow.holds Try.pinned (OpenSpec.ofChange dealKeepsSpec)

/-- ITS FALSE NEIGHBOUR: 'it returns false'. Refute it at one input. -/
def dealKeepsWrong : ChangeSpec := { name := "dealKeeps", fn := fun _ => fun
  | [d] => { results := [.lit (.bool false)], args := [d] }
  | _ => none }
def DealKeepsWrongFalsely : Prop := dealKeepsRow.holds Try.pinned (OpenSpec.ofChange dealKeepsWrong)

/-- 'middenlaw05.TallyKeeps': WHATEVER THE INPUT: true; the input reads as it did. -/
def tallyKeepsSpec : ChangeSpec := { name := "tallyKeeps", fn := fun _ => fun
  | [d] => { results := [.lit (.bool true)], args := [d] }
  | _ => none }
def tallyKeepsRow : OpenClaim := { program := "ytohjlcmekkllgaa", sum := "1b3e6e5ea0c07c6ef1004772f50316d7fcf0b3ba7c884cbd6894da4c43d48e4e", func := "midden/middenlaw05.TallyKeeps", spec := "tallyKeeps", inPlace := ["sync/atomic.StoreUint64", "sync/atomic.LoadUint64"], unfollowed := true, recurses := true, apart := false }
def TallyKeepsSaid : Prop := tallyKeepsRow.holds Try.pinned (OpenSpec.ofChange tallyKeepsSpec)

/-- ITS FALSE NEIGHBOUR: 'it returns false'. Refute it at one input. -/
def tallyKeepsWrong : ChangeSpec := { name := "tallyKeeps", fn := fun _ => fun
  | [d] => { results := [.lit (.bool false)], args := [d] }
  | _ => none }
def TallyKeepsWrongFalsely : Prop := tallyKeepsRow.holds Try.pinned (OpenSpec.ofChange tallyKeepsWrong)

/-- 'middenlaw06.PileOrder': WHATEVER THE INPUT: true; the input reads as it did. -/
def pileOrderSpec : ChangeSpec := { name := "pileOrder", fn := fun _ => fun
  | [d1, d2, d3, d4] => { results := [.lit (.bool true)], args := [d1, d2, d3, d4] }
  | _ => none }
def pileOrderRow : OpenClaim := { program := "ytohjlcmekkllgaa", sum := "1b3e6e5ea0c07c6ef1004772f50316d7fcf0b3ba7c884cbd6894da4c43d48e4e", func := "midden/middenlaw06.PileOrder", spec := "pileOrder", inPlace := ["sync/atomic.StoreUint64", "sync/atomic.LoadUint64"], unfollowed := true, recurses := true, apart := false }
def PileOrderSaid : Prop := pileOrderRow.holds Try.pinned (OpenSpec.ofChange pileOrderSpec)

/-- ITS FALSE NEIGHBOUR: 'it returns false'. Refute it at one input. -/
def pileOrderWrong : ChangeSpec := { name := "pileOrder", fn := fun _ => fun
  | [d1, d2, d3, d4] => { results := [.lit (.bool false)], args := [d1, d2, d3, d4] }
  | _ => none }
def PileOrderWrongFalsely : Prop := pileOrderRow.holds Try.pinned (OpenSpec.ofChange pileOrderWrong)

/-- 'middenlaw06.PileKept': WHATEVER THE INPUT: true; the input reads as it did. -/
def pileKeptSpec : ChangeSpec := { name := "pileKept", fn := fun _ => fun
  | [d1, d2, d3] => { results := [.lit (.bool true)], args := [d1, d2, d3] }
  | _ => none }
def pileKeptRow : OpenClaim := { program := "ytohjlcmekkllgaa", sum := "1b3e6e5ea0c07c6ef1004772f50316d7fcf0b3ba7c884cbd6894da4c43d48e4e", func := "midden/middenlaw06.PileKept", spec := "pileKept", inPlace := ["sync/atomic.StoreUint64", "sync/atomic.LoadUint64"], unfollowed := true, recurses := true, apart := false }
def PileKeptSaid : Prop := pileKeptRow.holds Try.pinned (OpenSpec.ofChange pileKeptSpec)

/-- ITS FALSE NEIGHBOUR: 'it returns false'. Refute it at one input. -/
def pileKeptWrong : ChangeSpec := { name := "pileKept", fn := fun _ => fun
  | [d1, d2, d3] => { results := [.lit (.bool false)], args := [d1, d2, d3] }
  | _ => none }
def PileKeptWrongFalsely : Prop := pileKeptRow.holds Try.pinned (OpenSpec.ofChange pileKeptWrong)

/- THE SECOND FORM. 'bulk': how many values and letters a reading holds, each counted each time it is reached (what is shared counts as often as it is met; a slice's spare places count too). A statement '..UptoSaid' is the law's where the arguments, and the package variables that the reading takes, are together of bulk at most 1048576: NARROWER than '..Said'. Prove '..Said' where nothing that the law and all that it calls make is longer than what came in: it says more and counts as full. Else prove '..UptoSaid'. A law counts once. -/
mutual
def uptoBulk {H : Type} : DataW H → Nat
  | .lit (.string bytes) => bytes.length + 1
  | .lit _ => 1
  | .nil => 1
  | .ptr d => uptoBulk d + 1
  | .slice elems spare => uptoBulkAll elems + uptoBulkAll spare + 1
  | .agg parts => uptoBulkAll parts + 1
  | .iface _ d => uptoBulk d + 1
  | .map entries => uptoBulkEntries entries + 1
  | .held _ => 1
def uptoBulkAll {H : Type} : List (DataW H) → Nat
  | [] => 0
  | d :: r => uptoBulk d + uptoBulkAll r
def uptoBulkEntries {H : Type} : List (Lit × DataW H) → Nat
  | [] => 0
  | x :: r => uptoBulkEntry x + uptoBulkEntries r
def uptoBulkEntry {H : Type} : Lit × DataW H → Nat
  | (.string bytes, d) => bytes.length + uptoBulk d + 1
  | (_, d) => uptoBulk d + 1
 end
def uptoSmall : (H : Type) → List (DataW H) → Bool := fun _ ds => decide (uptoBulkAll ds ≤ 1048576)
def OpenSpec.upto (s : _root_.Go.ChangeSpec) : _root_.Go.OpenSpec := { _root_.Go.OpenSpec.ofChange s with cond := some uptoSmall }

/-- 'middenlaw08.DealPlays', WHERE WHAT IT READS IS OF BULK AT MOST 1048576: true; the input reads as it did. -/
def dealPlaysUptoRow : OpenClaim := { program := "ytohjlcmekkllgaa", sum := "1b3e6e5ea0c07c6ef1004772f50316d7fcf0b3ba7c884cbd6894da4c43d48e4e", func := "midden/middenlaw08.DealPlays", spec := "dealPlays", inPlace := ["sync/atomic.StoreUint64", "sync/atomic.LoadUint64"], unfollowed := true, recurses := true, apart := false, narrowed := true }
def DealPlaysUptoSaid : Prop := dealPlaysUptoRow.holds Try.pinned (OpenSpec.upto dealPlaysSpec)

/-- 'middenlaw08.DealFaces', WHERE WHAT IT READS IS OF BULK AT MOST 1048576: true; the input reads as it did. -/
def dealFacesUptoRow : OpenClaim := { program := "ytohjlcmekkllgaa", sum := "1b3e6e5ea0c07c6ef1004772f50316d7fcf0b3ba7c884cbd6894da4c43d48e4e", func := "midden/middenlaw08.DealFaces", spec := "dealFaces", inPlace := ["sync/atomic.StoreUint64", "sync/atomic.LoadUint64"], unfollowed := true, recurses := true, apart := false, narrowed := true }
def DealFacesUptoSaid : Prop := dealFacesUptoRow.holds Try.pinned (OpenSpec.upto dealFacesSpec)

/-- 'middenlaw08.DealKeeps', WHERE WHAT IT READS IS OF BULK AT MOST 1048576: true; the input reads as it did. -/
def dealKeepsUptoRow : OpenClaim := { program := "ytohjlcmekkllgaa", sum := "1b3e6e5ea0c07c6ef1004772f50316d7fcf0b3ba7c884cbd6894da4c43d48e4e", func := "midden/middenlaw08.DealKeeps", spec := "dealKeeps", inPlace := ["sync/atomic.StoreUint64", "sync/atomic.LoadUint64"], unfollowed := true, recurses := true, apart := false, narrowed := true }
def DealKeepsUptoSaid : Prop := dealKeepsUptoRow.holds Try.pinned (OpenSpec.upto dealKeepsSpec)

/-- 'middenlaw05.TallyKeeps', WHERE WHAT IT READS IS OF BULK AT MOST 1048576: true; the input reads as it did. -/
def tallyKeepsUptoRow : OpenClaim := { program := "ytohjlcmekkllgaa", sum := "1b3e6e5ea0c07c6ef1004772f50316d7fcf0b3ba7c884cbd6894da4c43d48e4e", func := "midden/middenlaw05.TallyKeeps", spec := "tallyKeeps", inPlace := ["sync/atomic.StoreUint64", "sync/atomic.LoadUint64"], unfollowed := true, recurses := true, apart := false, narrowed := true }
def TallyKeepsUptoSaid : Prop := tallyKeepsUptoRow.holds Try.pinned (OpenSpec.upto tallyKeepsSpec)

/-- 'middenlaw06.PileOrder', WHERE WHAT IT READS IS OF BULK AT MOST 1048576: true; the input reads as it did. -/
def pileOrderUptoRow : OpenClaim := { program := "ytohjlcmekkllgaa", sum := "1b3e6e5ea0c07c6ef1004772f50316d7fcf0b3ba7c884cbd6894da4c43d48e4e", func := "midden/middenlaw06.PileOrder", spec := "pileOrder", inPlace := ["sync/atomic.StoreUint64", "sync/atomic.LoadUint64"], unfollowed := true, recurses := true, apart := false, narrowed := true }
def PileOrderUptoSaid : Prop := pileOrderUptoRow.holds Try.pinned (OpenSpec.upto pileOrderSpec)

/-- 'middenlaw06.PileKept', WHERE WHAT IT READS IS OF BULK AT MOST 1048576: true; the input reads as it did. -/
def pileKeptUptoRow : OpenClaim := { program := "ytohjlcmekkllgaa", sum := "1b3e6e5ea0c07c6ef1004772f50316d7fcf0b3ba7c884cbd6894da4c43d48e4e", func := "midden/middenlaw06.PileKept", spec := "pileKept", inPlace := ["sync/atomic.StoreUint64", "sync/atomic.LoadUint64"], unfollowed := true, recurses := true, apart := false, narrowed := true }
def PileKeptUptoSaid : Prop := pileKeptUptoRow.holds Try.pinned (OpenSpec.upto pileKeptSpec)

end Rows
end Go.Proofs.Ytohjlcmekkllgaa
