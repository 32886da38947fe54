/-
  No cell of these rows narrows 'for every input' (looked for: loops, veiled, ifaces, maps, wideKeys, modest, calm, conditions, laid).
  DERIVED. THE GIVEN ROWS OF THIS SEAT. 6 by the template 'for every input the law returns true; each argument reads behind the call as it read before'; 0 by the template 'total and deterministic' (their statements: YtbohmahjpolapaaTotals.lean).
  GIVEN WITH THE SEED: the statements are not yours to turn. If you find one false, say at which input.
  Laid BY PROGRAM, IN A SANDBOX (cutbox-rows.mjs): the forced cells as the released guide's own fill.sh prints them over the translation 72d7b45f7f026081… (all of the seat's roots in one cut). By AI agents, Wed Nov 11 2026. No macro, syntax, notation, axiom, sorry.
-/
import Derived.Test.YtbohmahjpolapaaChecked
import GoSem.Claim
import GoSem.ClaimJoined
import GoSem.ClaimMapViews
import Derived.JoinedTies
import Derived.KernelRfl
namespace Go.Proofs.Ytbohmahjpolapaa
/- THE CELL 'sum', in the pinned program and in every row, IS THE sha256 OF THE DUMP (.gsa) THAT YtbohmahjpolapaaProg.lean LOADS. Nothing in Lean hashes anything: it is a label: what it is worth is what the hold of that sum in a sandbox is worth. -/
noncomputable def Try.pinned : Pinned := { name := "ytbohmahjpolapaa", sum := "72d7b45f7f026081df3deb2b26e567034e36a7150274d3568b3ff22acd83e388", checked := Try.checked }
namespace Rows
def none {H : Type} : Left H := { results := [], args := [] }

/-- 'middenlaw11.EpochPlays': WHATEVER THE INPUT: true; the input reads as it did. -/
def epochPlaysSpec : ChangeSpec := { name := "epochPlays", fn := fun _ => fun
  | [d] => { results := [.lit (.bool true)], args := [d] }
  | _ => none }
def epochPlaysRow : OpenClaim := { program := "ytbohmahjpolapaa", sum := "72d7b45f7f026081df3deb2b26e567034e36a7150274d3568b3ff22acd83e388", func := "midden/middenlaw11.EpochPlays", spec := "epochPlays", inPlace := ["sync/atomic.StoreUint64", "sync/atomic.LoadUint64"], unfollowed := true, recurses := true, apart := false }
def EpochPlaysSaid : Prop := epochPlaysRow.holds Try.pinned (OpenSpec.ofChange epochPlaysSpec)

/-- ITS FALSE NEIGHBOUR: 'it returns false'. Refute it at one input. -/
def epochPlaysWrong : ChangeSpec := { name := "epochPlays", fn := fun _ => fun
  | [d] => { results := [.lit (.bool false)], args := [d] }
  | _ => none }
def EpochPlaysWrongFalsely : Prop := epochPlaysRow.holds Try.pinned (OpenSpec.ofChange epochPlaysWrong)

/-- 'middenlaw11.EpochSafe': WHATEVER THE INPUT: true; the input reads as it did. -/
def epochSafeSpec : ChangeSpec := { name := "epochSafe", fn := fun _ => fun
  | [d] => { results := [.lit (.bool true)], args := [d] }
  | _ => none }
def epochSafeRow : OpenClaim := { program := "ytbohmahjpolapaa", sum := "72d7b45f7f026081df3deb2b26e567034e36a7150274d3568b3ff22acd83e388", func := "midden/middenlaw11.EpochSafe", spec := "epochSafe", inPlace := ["sync/atomic.StoreUint64", "sync/atomic.LoadUint64"], unfollowed := true, recurses := true, apart := false }
def EpochSafeSaid : Prop := epochSafeRow.holds Try.pinned (OpenSpec.ofChange epochSafeSpec)

/-- ITS FALSE NEIGHBOUR: 'it returns false'. Refute it at one input. -/
def epochSafeWrong : ChangeSpec := { name := "epochSafe", fn := fun _ => fun
  | [d] => { results := [.lit (.bool false)], args := [d] }
  | _ => none }
def EpochSafeWrongFalsely : Prop := epochSafeRow.holds Try.pinned (OpenSpec.ofChange epochSafeWrong)

/-- 'middenlaw11.EpochEnd': WHATEVER THE INPUT: true; the input reads as it did. -/
def epochEndSpec : ChangeSpec := { name := "epochEnd", fn := fun _ => fun
  | [d] => { results := [.lit (.bool true)], args := [d] }
  | _ => none }
def epochEndRow : OpenClaim := { program := "ytbohmahjpolapaa", sum := "72d7b45f7f026081df3deb2b26e567034e36a7150274d3568b3ff22acd83e388", func := "midden/middenlaw11.EpochEnd", spec := "epochEnd", inPlace := ["sync/atomic.StoreUint64", "sync/atomic.LoadUint64"], unfollowed := true, recurses := true, apart := false }
def EpochEndSaid : Prop := epochEndRow.holds Try.pinned (OpenSpec.ofChange epochEndSpec)

/-- ITS FALSE NEIGHBOUR: 'it returns false'. Refute it at one input. -/
def epochEndWrong : ChangeSpec := { name := "epochEnd", fn := fun _ => fun
  | [d] => { results := [.lit (.bool false)], args := [d] }
  | _ => none }
def EpochEndWrongFalsely : Prop := epochEndRow.holds Try.pinned (OpenSpec.ofChange epochEndWrong)

/-- 'middenlaw08.DealPlays': WHATEVER THE INPUT: true; the input reads as it did. -/
def dealPlaysSpec : ChangeSpec := { name := "dealPlays", fn := fun _ => fun
  | [d] => { results := [.lit (.bool true)], args := [d] }
  | _ => none }
def dealPlaysRow : OpenClaim := { program := "ytbohmahjpolapaa", sum := "72d7b45f7f026081df3deb2b26e567034e36a7150274d3568b3ff22acd83e388", func := "midden/middenlaw08.DealPlays", spec := "dealPlays", inPlace := ["sync/atomic.StoreUint64", "sync/atomic.LoadUint64"], unfollowed := true, recurses := true, apart := false }
def DealPlaysSaid : Prop := dealPlaysRow.holds Try.pinned (OpenSpec.ofChange dealPlaysSpec)

/-- ITS FALSE NEIGHBOUR: 'it returns false'. Refute it at one input. -/
def dealPlaysWrong : ChangeSpec := { name := "dealPlays", fn := fun _ => fun
  | [d] => { results := [.lit (.bool false)], args := [d] }
  | _ => none }
def DealPlaysWrongFalsely : Prop := dealPlaysRow.holds Try.pinned (OpenSpec.ofChange dealPlaysWrong)

/-- 'middenlaw08.DealOnce': WHATEVER THE INPUT: true; the input reads as it did. -/
def dealOnceSpec : ChangeSpec := { name := "dealOnce", fn := fun _ => fun
  | [d] => { results := [.lit (.bool true)], args := [d] }
  | _ => none }
def dealOnceRow : OpenClaim := { program := "ytbohmahjpolapaa", sum := "72d7b45f7f026081df3deb2b26e567034e36a7150274d3568b3ff22acd83e388", func := "midden/middenlaw08.DealOnce", spec := "dealOnce", inPlace := ["sync/atomic.StoreUint64", "sync/atomic.LoadUint64"], unfollowed := true, recurses := true, apart := false }
def DealOnceSaid : Prop := dealOnceRow.holds Try.pinned (OpenSpec.ofChange dealOnceSpec)

/-- ITS FALSE NEIGHBOUR: 'it returns false'. Refute it at one input. -/
def dealOnceWrong : ChangeSpec := { name := "dealOnce", fn := fun _ => fun
  | [d] => { results := [.lit (.bool false)], args := [d] }
  | _ => none }
def DealOnceWrongFalsely : Prop := dealOnceRow.holds Try.pinned (OpenSpec.ofChange dealOnceWrong)

/-- 'middenlaw08.DealOrder': WHATEVER THE INPUT: true; the input reads as it did. -/
def dealOrderSpec : ChangeSpec := { name := "dealOrder", fn := fun _ => fun
  | [d] => { results := [.lit (.bool true)], args := [d] }
  | _ => none }
def dealOrderRow : OpenClaim := { program := "ytbohmahjpolapaa", sum := "72d7b45f7f026081df3deb2b26e567034e36a7150274d3568b3ff22acd83e388", func := "midden/middenlaw08.DealOrder", spec := "dealOrder", inPlace := ["sync/atomic.StoreUint64", "sync/atomic.LoadUint64"], unfollowed := true, recurses := true, apart := false }
def DealOrderSaid : Prop := dealOrderRow.holds Try.pinned (OpenSpec.ofChange dealOrderSpec)

/-- ITS FALSE NEIGHBOUR: 'it returns false'. Refute it at one input. -/
def dealOrderWrong : ChangeSpec := { name := "dealOrder", fn := fun _ => fun
  | [d] => { results := [.lit (.bool false)], args := [d] }
  | _ => none }
def DealOrderWrongFalsely : Prop := dealOrderRow.holds Try.pinned (OpenSpec.ofChange dealOrderWrong)

/- THE SECOND FORM. 'bulk': how many values and letters a reading holds, each counted each time it is reached (what is shared counts as often as it is met; a slice's spare places count too). A statement '..UptoSaid' is the law's where the arguments, and the package variables that the reading takes, are together of bulk at most 1048576: NARROWER than '..Said'. Prove '..Said' where nothing that the law and all that it calls make is longer than what came in: it says more and counts as full. Else prove '..UptoSaid'. A law counts once. -/
mutual
def uptoBulk {H : Type} : DataW H → Nat
  | .lit (.string bytes) => bytes.length + 1
  | .lit _ => 1
  | .nil => 1
  | .ptr d => uptoBulk d + 1
  | .slice elems spare => uptoBulkAll elems + uptoBulkAll spare + 1
  | .agg parts => uptoBulkAll parts + 1
  | .iface _ d => uptoBulk d + 1
  | .map entries => uptoBulkEntries entries + 1
  | .held _ => 1
def uptoBulkAll {H : Type} : List (DataW H) → Nat
  | [] => 0
  | d :: r => uptoBulk d + uptoBulkAll r
def uptoBulkEntries {H : Type} : List (Lit × DataW H) → Nat
  | [] => 0
  | x :: r => uptoBulkEntry x + uptoBulkEntries r
def uptoBulkEntry {H : Type} : Lit × DataW H → Nat
  | (.string bytes, d) => bytes.length + uptoBulk d + 1
  | (_, d) => uptoBulk d + 1
 end
def uptoSmall : (H : Type) → List (DataW H) → Bool := fun _ ds => decide (uptoBulkAll ds ≤ 1048576)
def OpenSpec.upto (s : _root_.Go.ChangeSpec) : _root_.Go.OpenSpec := { _root_.Go.OpenSpec.ofChange s with cond := some uptoSmall }

/-- 'middenlaw11.EpochPlays', WHERE WHAT IT READS IS OF BULK AT MOST 1048576: true; the input reads as it did. -/
def epochPlaysUptoRow : OpenClaim := { program := "ytbohmahjpolapaa", sum := "72d7b45f7f026081df3deb2b26e567034e36a7150274d3568b3ff22acd83e388", func := "midden/middenlaw11.EpochPlays", spec := "epochPlays", inPlace := ["sync/atomic.StoreUint64", "sync/atomic.LoadUint64"], unfollowed := true, recurses := true, apart := false, narrowed := true }
def EpochPlaysUptoSaid : Prop := epochPlaysUptoRow.holds Try.pinned (OpenSpec.upto epochPlaysSpec)

/-- 'middenlaw11.EpochSafe', WHERE WHAT IT READS IS OF BULK AT MOST 1048576: true; the input reads as it did. -/
def epochSafeUptoRow : OpenClaim := { program := "ytbohmahjpolapaa", sum := "72d7b45f7f026081df3deb2b26e567034e36a7150274d3568b3ff22acd83e388", func := "midden/middenlaw11.EpochSafe", spec := "epochSafe", inPlace := ["sync/atomic.StoreUint64", "sync/atomic.LoadUint64"], unfollowed := true, recurses := true, apart := false, narrowed := true }
def EpochSafeUptoSaid : Prop := epochSafeUptoRow.holds Try.pinned (OpenSpec.upto epochSafeSpec)

/-- 'middenlaw11.EpochEnd', WHERE WHAT IT READS IS OF BULK AT MOST 1048576: true; the input reads as it did. -/
def epochEndUptoRow : OpenClaim := { program := "ytbohmahjpolapaa", sum := "72d7b45f7f026081df3deb2b26e567034e36a7150274d3568b3ff22acd83e388", func := "midden/middenlaw11.EpochEnd", spec := "epochEnd", inPlace := ["sync/atomic.StoreUint64", "sync/atomic.LoadUint64"], unfollowed := true, recurses := true, apart := false, narrowed := true }
def EpochEndUptoSaid : Prop := epochEndUptoRow.holds Try.pinned (OpenSpec.upto epochEndSpec)

/-- 'middenlaw08.DealPlays', WHERE WHAT IT READS IS OF BULK AT MOST 1048576: true; the input reads as it did. -/
def dealPlaysUptoRow : OpenClaim := { program := "ytbohmahjpolapaa", sum := "72d7b45f7f026081df3deb2b26e567034e36a7150274d3568b3ff22acd83e388", func := "midden/middenlaw08.DealPlays", spec := "dealPlays", inPlace := ["sync/atomic.StoreUint64", "sync/atomic.LoadUint64"], unfollowed := true, recurses := true, apart := false, narrowed := true }
def DealPlaysUptoSaid : Prop := dealPlaysUptoRow.holds Try.pinned (OpenSpec.upto dealPlaysSpec)

/-- 'middenlaw08.DealOnce', WHERE WHAT IT READS IS OF BULK AT MOST 1048576: true; the input reads as it did. -/
def dealOnceUptoRow : OpenClaim := { program := "ytbohmahjpolapaa", sum := "72d7b45f7f026081df3deb2b26e567034e36a7150274d3568b3ff22acd83e388", func := "midden/middenlaw08.DealOnce", spec := "dealOnce", inPlace := ["sync/atomic.StoreUint64", "sync/atomic.LoadUint64"], unfollowed := true, recurses := true, apart := false, narrowed := true }
def DealOnceUptoSaid : Prop := dealOnceUptoRow.holds Try.pinned (OpenSpec.upto dealOnceSpec)

/-- 'middenlaw08.DealOrder', WHERE WHAT IT READS IS OF BULK AT MOST 1048576: true; the input reads as it did. -/
def dealOrderUptoRow : OpenClaim := { program := "ytbohmahjpolapaa", sum := "72d7b45f7f026081df3deb2b26e567034e36a7150274d3568b3ff22acd83e388", func := "midden/middenlaw08.DealOrder", spec := "dealOrder", inPlace := ["sync/atomic.StoreUint64", "sync/atomic.LoadUint64"], unfollowed := true, recurses := true, apart := false, narrowed := true }
def DealOrderUptoSaid : Prop := dealOrderUptoRow.holds Try.pinned (OpenSpec.upto dealOrderSpec)

end Rows
end Go.Proofs.Ytbohmahjpolapaa
