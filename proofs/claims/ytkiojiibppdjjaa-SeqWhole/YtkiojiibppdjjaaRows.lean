/-
  No cell of these rows narrows 'for every input' (looked for: loops, veiled, ifaces, maps, wideKeys, modest, calm, conditions, laid).
  DERIVED. THE GIVEN ROWS OF THIS SEAT. 6 by the template 'for every input the law returns true; each argument reads behind the call as it read before'; 0 by the template 'total and deterministic' (their statements: YtkiojiibppdjjaaTotals.lean).
  GIVEN WITH THE SEED: the statements are not yours to turn. If you find one false, say at which input.
  Laid BY PROGRAM, IN A SANDBOX (cutbox-rows.mjs): the forced cells as the released guide's own fill.sh prints them over the translation 9b01f1cc98e6d64a… (all of the seat's roots in one cut). By AI agents, Wed Nov 11 2026. No macro, syntax, notation, axiom, sorry.
-/
import Derived.Test.YtkiojiibppdjjaaChecked
import GoSem.Claim
import GoSem.ClaimJoined
import GoSem.ClaimMapViews
import Derived.JoinedTies
import Derived.KernelRfl
namespace Go.Proofs.Ytkiojiibppdjjaa
/- THE CELL 'sum', in the pinned program and in every row, IS THE sha256 OF THE DUMP (.gsa) THAT YtkiojiibppdjjaaProg.lean LOADS. Nothing in Lean hashes anything: it is a label: what it is worth is what the hold of that sum in a sandbox is worth. -/
noncomputable def Try.pinned : Pinned := { name := "ytkiojiibppdjjaa", sum := "9b01f1cc98e6d64aa03aaf45e127bdcddf449941f7c131146750ba246d4bdd9e", checked := Try.checked }
namespace Rows
def none {H : Type} : Left H := { results := [], args := [] }

/-- 'middenlaw10.SeqPlays': WHATEVER THE INPUT: true; the input reads as it did. -/
def seqPlaysSpec : ChangeSpec := { name := "seqPlays", fn := fun _ => fun
  | [d] => { results := [.lit (.bool true)], args := [d] }
  | _ => none }
def seqPlaysRow : OpenClaim := { program := "ytkiojiibppdjjaa", sum := "9b01f1cc98e6d64aa03aaf45e127bdcddf449941f7c131146750ba246d4bdd9e", func := "midden/middenlaw10.SeqPlays", spec := "seqPlays", inPlace := ["sync/atomic.StoreUint64", "sync/atomic.LoadUint64"], unfollowed := true, recurses := true, apart := false }
def SeqPlaysSaid : Prop := seqPlaysRow.holds Try.pinned (OpenSpec.ofChange seqPlaysSpec)

/-- ITS FALSE NEIGHBOUR: 'it returns false'. Refute it at one input. -/
def seqPlaysWrong : ChangeSpec := { name := "seqPlays", fn := fun _ => fun
  | [d] => { results := [.lit (.bool false)], args := [d] }
  | _ => none }
def SeqPlaysWrongFalsely : Prop := seqPlaysRow.holds Try.pinned (OpenSpec.ofChange seqPlaysWrong)

/-- 'middenlaw10.SeqTasks': WHATEVER THE INPUT: true; the input reads as it did. -/
def seqTasksSpec : ChangeSpec := { name := "seqTasks", fn := fun _ => fun
  | [d1, d2, d3] => { results := [.lit (.bool true)], args := [d1, d2, d3] }
  | _ => none }
def seqTasksRow : OpenClaim := { program := "ytkiojiibppdjjaa", sum := "9b01f1cc98e6d64aa03aaf45e127bdcddf449941f7c131146750ba246d4bdd9e", func := "midden/middenlaw10.SeqTasks", spec := "seqTasks", inPlace := ["sync/atomic.StoreUint64", "sync/atomic.LoadUint64"], unfollowed := true, recurses := true, apart := false }
def SeqTasksSaid : Prop := seqTasksRow.holds Try.pinned (OpenSpec.ofChange seqTasksSpec)

/-- ITS FALSE NEIGHBOUR: 'it returns false'. Refute it at one input. -/
def seqTasksWrong : ChangeSpec := { name := "seqTasks", fn := fun _ => fun
  | [d1, d2, d3] => { results := [.lit (.bool false)], args := [d1, d2, d3] }
  | _ => none }
def SeqTasksWrongFalsely : Prop := seqTasksRow.holds Try.pinned (OpenSpec.ofChange seqTasksWrong)

/-- 'middenlaw10.SeqWhole': WHATEVER THE INPUT: true; the input reads as it did. -/
def seqWholeSpec : ChangeSpec := { name := "seqWhole", fn := fun _ => fun
  | [d1, d2, d3] => { results := [.lit (.bool true)], args := [d1, d2, d3] }
  | _ => none }
def seqWholeRow : OpenClaim := { program := "ytkiojiibppdjjaa", sum := "9b01f1cc98e6d64aa03aaf45e127bdcddf449941f7c131146750ba246d4bdd9e", func := "midden/middenlaw10.SeqWhole", spec := "seqWhole", inPlace := ["sync/atomic.StoreUint64", "sync/atomic.LoadUint64"], unfollowed := true, recurses := true, apart := false }
def SeqWholeSaid : Prop := seqWholeRow.holds Try.pinned (OpenSpec.ofChange seqWholeSpec)

/-- ITS FALSE NEIGHBOUR: 'it returns false'. Refute it at one input. -/
def seqWholeWrong : ChangeSpec := { name := "seqWhole", fn := fun _ => fun
  | [d1, d2, d3] => { results := [.lit (.bool false)], args := [d1, d2, d3] }
  | _ => none }
def SeqWholeWrongFalsely : Prop := seqWholeRow.holds Try.pinned (OpenSpec.ofChange seqWholeWrong)

/-- 'middenlaw08.DealAlone': WHATEVER THE INPUT: true; the input reads as it did. -/
def dealAloneSpec : ChangeSpec := { name := "dealAlone", fn := fun _ => fun
  | [d1, d2] => { results := [.lit (.bool true)], args := [d1, d2] }
  | _ => none }
def dealAloneRow : OpenClaim := { program := "ytkiojiibppdjjaa", sum := "9b01f1cc98e6d64aa03aaf45e127bdcddf449941f7c131146750ba246d4bdd9e", func := "midden/middenlaw08.DealAlone", spec := "dealAlone", inPlace := ["sync/atomic.StoreUint64", "sync/atomic.LoadUint64"], unfollowed := true, recurses := true, apart := false }
def DealAloneSaid : Prop := dealAloneRow.holds Try.pinned (OpenSpec.ofChange dealAloneSpec)

/-- ITS FALSE NEIGHBOUR: 'it returns false'. Refute it at one input. -/
def dealAloneWrong : ChangeSpec := { name := "dealAlone", fn := fun _ => fun
  | [d1, d2] => { results := [.lit (.bool false)], args := [d1, d2] }
  | _ => none }
def DealAloneWrongFalsely : Prop := dealAloneRow.holds Try.pinned (OpenSpec.ofChange dealAloneWrong)

/-- 'middenlaw08.DealOnce': WHATEVER THE INPUT: true; the input reads as it did. -/
def dealOnceSpec : ChangeSpec := { name := "dealOnce", fn := fun _ => fun
  | [d] => { results := [.lit (.bool true)], args := [d] }
  | _ => none }
def dealOnceRow : OpenClaim := { program := "ytkiojiibppdjjaa", sum := "9b01f1cc98e6d64aa03aaf45e127bdcddf449941f7c131146750ba246d4bdd9e", func := "midden/middenlaw08.DealOnce", spec := "dealOnce", inPlace := ["sync/atomic.StoreUint64", "sync/atomic.LoadUint64"], unfollowed := true, recurses := true, apart := false }
def DealOnceSaid : Prop := dealOnceRow.holds Try.pinned (OpenSpec.ofChange dealOnceSpec)

/-- ITS FALSE NEIGHBOUR: 'it returns false'. Refute it at one input. -/
def dealOnceWrong : ChangeSpec := { name := "dealOnce", fn := fun _ => fun
  | [d] => { results := [.lit (.bool false)], args := [d] }
  | _ => none }
def DealOnceWrongFalsely : Prop := dealOnceRow.holds Try.pinned (OpenSpec.ofChange dealOnceWrong)

/-- 'middenlaw08.DealOrder': WHATEVER THE INPUT: true; the input reads as it did. -/
def dealOrderSpec : ChangeSpec := { name := "dealOrder", fn := fun _ => fun
  | [d] => { results := [.lit (.bool true)], args := [d] }
  | _ => none }
def dealOrderRow : OpenClaim := { program := "ytkiojiibppdjjaa", sum := "9b01f1cc98e6d64aa03aaf45e127bdcddf449941f7c131146750ba246d4bdd9e", func := "midden/middenlaw08.DealOrder", spec := "dealOrder", inPlace := ["sync/atomic.StoreUint64", "sync/atomic.LoadUint64"], unfollowed := true, recurses := true, apart := false }
def DealOrderSaid : Prop := dealOrderRow.holds Try.pinned (OpenSpec.ofChange dealOrderSpec)

/-- ITS FALSE NEIGHBOUR: 'it returns false'. Refute it at one input. -/
def dealOrderWrong : ChangeSpec := { name := "dealOrder", fn := fun _ => fun
  | [d] => { results := [.lit (.bool false)], args := [d] }
  | _ => none }
def DealOrderWrongFalsely : Prop := dealOrderRow.holds Try.pinned (OpenSpec.ofChange dealOrderWrong)

/- THE SECOND FORM. 'bulk': how many values and letters a reading holds, each counted each time it is reached (what is shared counts as often as it is met; a slice's spare places count too). A statement '..UptoSaid' is the law's where the arguments, and the package variables that the reading takes, are together of bulk at most 1048576: NARROWER than '..Said'. Prove '..Said' where nothing that the law and all that it calls make is longer than what came in: it says more and counts as full. Else prove '..UptoSaid'. A law counts once. -/
mutual
def uptoBulk {H : Type} : DataW H → Nat
  | .lit (.string bytes) => bytes.length + 1
  | .lit _ => 1
  | .nil => 1
  | .ptr d => uptoBulk d + 1
  | .slice elems spare => uptoBulkAll elems + uptoBulkAll spare + 1
  | .agg parts => uptoBulkAll parts + 1
  | .iface _ d => uptoBulk d + 1
  | .map entries => uptoBulkEntries entries + 1
  | .held _ => 1
def uptoBulkAll {H : Type} : List (DataW H) → Nat
  | [] => 0
  | d :: r => uptoBulk d + uptoBulkAll r
def uptoBulkEntries {H : Type} : List (Lit × DataW H) → Nat
  | [] => 0
  | x :: r => uptoBulkEntry x + uptoBulkEntries r
def uptoBulkEntry {H : Type} : Lit × DataW H → Nat
  | (.string bytes, d) => bytes.length + uptoBulk d + 1
  | (_, d) => uptoBulk d + 1
 end
def uptoSmall : (H : Type) → List (DataW H) → Bool := fun _ ds => decide (uptoBulkAll ds ≤ 1048576)
def OpenSpec.upto (s : _root_.Go.ChangeSpec) : _root_.Go.OpenSpec := { _root_.Go.OpenSpec.ofChange s with cond := some uptoSmall }

/-- 'middenlaw10.SeqPlays', WHERE WHAT IT READS IS OF BULK AT MOST 1048576: true; the input reads as it did. -/
def seqPlaysUptoRow : OpenClaim := { program := "ytkiojiibppdjjaa", sum := "9b01f1cc98e6d64aa03aaf45e127bdcddf449941f7c131146750ba246d4bdd9e", func := "midden/middenlaw10.SeqPlays", spec := "seqPlays", inPlace := ["sync/atomic.StoreUint64", "sync/atomic.LoadUint64"], unfollowed := true, recurses := true, apart := false, narrowed := true }
def SeqPlaysUptoSaid : Prop := seqPlaysUptoRow.holds Try.pinned (OpenSpec.upto seqPlaysSpec)

/-- 'middenlaw10.SeqTasks', WHERE WHAT IT READS IS OF BULK AT MOST 1048576: true; the input reads as it did. -/
def seqTasksUptoRow : OpenClaim := { program := "ytkiojiibppdjjaa", sum := "9b01f1cc98e6d64aa03aaf45e127bdcddf449941f7c131146750ba246d4bdd9e", func := "midden/middenlaw10.SeqTasks", spec := "seqTasks", inPlace := ["sync/atomic.StoreUint64", "sync/atomic.LoadUint64"], unfollowed := true, recurses := true, apart := false, narrowed := true }
def SeqTasksUptoSaid : Prop := seqTasksUptoRow.holds Try.pinned (OpenSpec.upto seqTasksSpec)

/-- 'middenlaw10.SeqWhole', WHERE WHAT IT READS IS OF BULK AT MOST 1048576: true; the input reads as it did. -/
def seqWholeUptoRow : OpenClaim := { program := "ytkiojiibppdjjaa", sum := "9b01f1cc98e6d64aa03aaf45e127bdcddf449941f7c131146750ba246d4bdd9e", func := "midden/middenlaw10.SeqWhole", spec := "seqWhole", inPlace := ["sync/atomic.StoreUint64", "sync/atomic.LoadUint64"], unfollowed := true, recurses := true, apart := false, narrowed := true }
def SeqWholeUptoSaid : Prop := seqWholeUptoRow.holds Try.pinned (OpenSpec.upto seqWholeSpec)

/-- 'middenlaw08.DealAlone', WHERE WHAT IT READS IS OF BULK AT MOST 1048576: true; the input reads as it did. -/
def dealAloneUptoRow : OpenClaim := { program := "ytkiojiibppdjjaa", sum := "9b01f1cc98e6d64aa03aaf45e127bdcddf449941f7c131146750ba246d4bdd9e", func := "midden/middenlaw08.DealAlone", spec := "dealAlone", inPlace := ["sync/atomic.StoreUint64", "sync/atomic.LoadUint64"], unfollowed := true, recurses := true, apart := false, narrowed := true }
def DealAloneUptoSaid : Prop := dealAloneUptoRow.holds Try.pinned (OpenSpec.upto dealAloneSpec)

/-- 'middenlaw08.DealOnce', WHERE WHAT IT READS IS OF BULK AT MOST 1048576: true; the input reads as it did. -/
def dealOnceUptoRow : OpenClaim := { program := "ytkiojiibppdjjaa", sum := "9b01f1cc98e6d64aa03aaf45e127bdcddf449941f7c131146750ba246d4bdd9e", func := "midden/middenlaw08.DealOnce", spec := "dealOnce", inPlace := ["sync/atomic.StoreUint64", "sync/atomic.LoadUint64"], unfollowed := true, recurses := true, apart := false, narrowed := true }
def DealOnceUptoSaid : Prop := dealOnceUptoRow.holds Try.pinned (OpenSpec.upto dealOnceSpec)

/-- 'middenlaw08.DealOrder', WHERE WHAT IT READS IS OF BULK AT MOST 1048576: true; the input reads as it did. -/
def dealOrderUptoRow : OpenClaim := { program := "ytkiojiibppdjjaa", sum := "9b01f1cc98e6d64aa03aaf45e127bdcddf449941f7c131146750ba246d4bdd9e", func := "midden/middenlaw08.DealOrder", spec := "dealOrder", inPlace := ["sync/atomic.StoreUint64", "sync/atomic.LoadUint64"], unfollowed := true, recurses := true, apart := false, narrowed := true }
def DealOrderUptoSaid : Prop := dealOrderUptoRow.holds Try.pinned (OpenSpec.upto dealOrderSpec)

end Rows
end Go.Proofs.Ytkiojiibppdjjaa
