/-
  No cell of these rows narrows 'for every input' (looked for: loops, veiled, ifaces, maps, wideKeys, modest, calm, conditions, laid).
  DERIVED. THE GIVEN ROWS OF THIS SEAT. 6 by the template 'for every input the law returns true; each argument reads behind the call as it read before'; 0 by the template 'total and deterministic' (their statements: YtpghfebnggoacaaTotals.lean).
  GIVEN WITH THE SEED: the statements are not yours to turn. If you find one false, say at which input.
  Laid BY PROGRAM, IN A SANDBOX (cutbox-rows.mjs): the forced cells as the released guide's own fill.sh prints them over the translation 7df134d596a558fd… (all of the seat's roots in one cut). By AI agents, Wed Nov 11 2026. No macro, syntax, notation, axiom, sorry.
-/
import Derived.Test.YtpghfebnggoacaaChecked
import GoSem.Claim
import GoSem.ClaimJoined
import GoSem.ClaimMapViews
import Derived.JoinedTies
import Derived.KernelRfl
namespace Go.Proofs.Ytpghfebnggoacaa
/- THE CELL 'sum', in the pinned program and in every row, IS THE sha256 OF THE DUMP (.gsa) THAT YtpghfebnggoacaaProg.lean LOADS. Nothing in Lean hashes anything: it is a label: what it is worth is what the hold of that sum in a sandbox is worth. -/
noncomputable def Try.pinned : Pinned := { name := "ytpghfebnggoacaa", sum := "7df134d596a558fdac8c0efcfe2b759997783302301da8c3dd9356ae843a82e6", checked := Try.checked }
namespace Rows
def none {H : Type} : Left H := { results := [], args := [] }

/-- 'middenlaw04.OncePlays': WHATEVER THE INPUT: true; the input reads as it did. -/
def oncePlaysSpec : ChangeSpec := { name := "oncePlays", fn := fun _ => fun
  | [d] => { results := [.lit (.bool true)], args := [d] }
  | _ => none }
def oncePlaysRow : OpenClaim := { program := "ytpghfebnggoacaa", sum := "7df134d596a558fdac8c0efcfe2b759997783302301da8c3dd9356ae843a82e6", func := "midden/middenlaw04.OncePlays", spec := "oncePlays", inPlace := ["sync/atomic.StoreUint64", "sync/atomic.LoadUint64"], unfollowed := true, recurses := true, apart := false }
def OncePlaysSaid : Prop := oncePlaysRow.holds Try.pinned (OpenSpec.ofChange oncePlaysSpec)

/-- ITS FALSE NEIGHBOUR: 'it returns false'. Refute it at one input. -/
def oncePlaysWrong : ChangeSpec := { name := "oncePlays", fn := fun _ => fun
  | [d] => { results := [.lit (.bool false)], args := [d] }
  | _ => none }
def OncePlaysWrongFalsely : Prop := oncePlaysRow.holds Try.pinned (OpenSpec.ofChange oncePlaysWrong)

/-- 'middenlaw04.OnceTasks': WHATEVER THE INPUT: true; the input reads as it did. -/
def onceTasksSpec : ChangeSpec := { name := "onceTasks", fn := fun _ => fun
  | [d1, d2, d3] => { results := [.lit (.bool true)], args := [d1, d2, d3] }
  | _ => none }
def onceTasksRow : OpenClaim := { program := "ytpghfebnggoacaa", sum := "7df134d596a558fdac8c0efcfe2b759997783302301da8c3dd9356ae843a82e6", func := "midden/middenlaw04.OnceTasks", spec := "onceTasks", inPlace := ["sync/atomic.StoreUint64", "sync/atomic.LoadUint64"], unfollowed := true, recurses := true, apart := false }
def OnceTasksSaid : Prop := onceTasksRow.holds Try.pinned (OpenSpec.ofChange onceTasksSpec)

/-- ITS FALSE NEIGHBOUR: 'it returns false'. Refute it at one input. -/
def onceTasksWrong : ChangeSpec := { name := "onceTasks", fn := fun _ => fun
  | [d1, d2, d3] => { results := [.lit (.bool false)], args := [d1, d2, d3] }
  | _ => none }
def OnceTasksWrongFalsely : Prop := onceTasksRow.holds Try.pinned (OpenSpec.ofChange onceTasksWrong)

/-- 'middenlaw04.OnceSettled': WHATEVER THE INPUT: true; the input reads as it did. -/
def onceSettledSpec : ChangeSpec := { name := "onceSettled", fn := fun _ => fun
  | [d1, d2, d3] => { results := [.lit (.bool true)], args := [d1, d2, d3] }
  | _ => none }
def onceSettledRow : OpenClaim := { program := "ytpghfebnggoacaa", sum := "7df134d596a558fdac8c0efcfe2b759997783302301da8c3dd9356ae843a82e6", func := "midden/middenlaw04.OnceSettled", spec := "onceSettled", inPlace := ["sync/atomic.StoreUint64", "sync/atomic.LoadUint64"], unfollowed := true, recurses := true, apart := false }
def OnceSettledSaid : Prop := onceSettledRow.holds Try.pinned (OpenSpec.ofChange onceSettledSpec)

/-- ITS FALSE NEIGHBOUR: 'it returns false'. Refute it at one input. -/
def onceSettledWrong : ChangeSpec := { name := "onceSettled", fn := fun _ => fun
  | [d1, d2, d3] => { results := [.lit (.bool false)], args := [d1, d2, d3] }
  | _ => none }
def OnceSettledWrongFalsely : Prop := onceSettledRow.holds Try.pinned (OpenSpec.ofChange onceSettledWrong)

/-- 'middenlaw05.TallyPlays': WHATEVER THE INPUT: true; the input reads as it did. -/
def tallyPlaysSpec : ChangeSpec := { name := "tallyPlays", fn := fun _ => fun
  | [d] => { results := [.lit (.bool true)], args := [d] }
  | _ => none }
def tallyPlaysRow : OpenClaim := { program := "ytpghfebnggoacaa", sum := "7df134d596a558fdac8c0efcfe2b759997783302301da8c3dd9356ae843a82e6", func := "midden/middenlaw05.TallyPlays", spec := "tallyPlays", inPlace := ["sync/atomic.StoreUint64", "sync/atomic.LoadUint64"], unfollowed := true, recurses := true, apart := false }
def TallyPlaysSaid : Prop := tallyPlaysRow.holds Try.pinned (OpenSpec.ofChange tallyPlaysSpec)

/-- ITS FALSE NEIGHBOUR: 'it returns false'. Refute it at one input. -/
def tallyPlaysWrong : ChangeSpec := { name := "tallyPlays", fn := fun _ => fun
  | [d] => { results := [.lit (.bool false)], args := [d] }
  | _ => none }
def TallyPlaysWrongFalsely : Prop := tallyPlaysRow.holds Try.pinned (OpenSpec.ofChange tallyPlaysWrong)

/-- 'middenlaw05.TallyFaces': WHATEVER THE INPUT: true; the input reads as it did. -/
def tallyFacesSpec : ChangeSpec := { name := "tallyFaces", fn := fun _ => fun
  | [d1, d2, d3] => { results := [.lit (.bool true)], args := [d1, d2, d3] }
  | _ => none }
def tallyFacesRow : OpenClaim := { program := "ytpghfebnggoacaa", sum := "7df134d596a558fdac8c0efcfe2b759997783302301da8c3dd9356ae843a82e6", func := "midden/middenlaw05.TallyFaces", spec := "tallyFaces", inPlace := ["sync/atomic.StoreUint64", "sync/atomic.LoadUint64"], unfollowed := true, recurses := true, apart := false }
def TallyFacesSaid : Prop := tallyFacesRow.holds Try.pinned (OpenSpec.ofChange tallyFacesSpec)

/-- ITS FALSE NEIGHBOUR: 'it returns false'. Refute it at one input. -/
def tallyFacesWrong : ChangeSpec := { name := "tallyFaces", fn := fun _ => fun
  | [d1, d2, d3] => { results := [.lit (.bool false)], args := [d1, d2, d3] }
  | _ => none }
def TallyFacesWrongFalsely : Prop := tallyFacesRow.holds Try.pinned (OpenSpec.ofChange tallyFacesWrong)

/-- 'middenlaw05.TallyNothingLost': WHATEVER THE INPUT: true; the input reads as it did. -/
def tallyNothingLostSpec : ChangeSpec := { name := "tallyNothingLost", fn := fun _ => fun
  | [d] => { results := [.lit (.bool true)], args := [d] }
  | _ => none }
def tallyNothingLostRow : OpenClaim := { program := "ytpghfebnggoacaa", sum := "7df134d596a558fdac8c0efcfe2b759997783302301da8c3dd9356ae843a82e6", func := "midden/middenlaw05.TallyNothingLost", spec := "tallyNothingLost", inPlace := ["sync/atomic.StoreUint64", "sync/atomic.LoadUint64"], unfollowed := true, recurses := true, apart := false }
def TallyNothingLostSaid : Prop := tallyNothingLostRow.holds Try.pinned (OpenSpec.ofChange tallyNothingLostSpec)

/-- ITS FALSE NEIGHBOUR: 'it returns false'. Refute it at one input. -/
def tallyNothingLostWrong : ChangeSpec := { name := "tallyNothingLost", fn := fun _ => fun
  | [d] => { results := [.lit (.bool false)], args := [d] }
  | _ => none }
def TallyNothingLostWrongFalsely : Prop := tallyNothingLostRow.holds Try.pinned (OpenSpec.ofChange tallyNothingLostWrong)

/- THE SECOND FORM. 'bulk': how many values and letters a reading holds, each counted each time it is reached (what is shared counts as often as it is met; a slice's spare places count too). A statement '..UptoSaid' is the law's where the arguments, and the package variables that the reading takes, are together of bulk at most 1048576: NARROWER than '..Said'. Prove '..Said' where nothing that the law and all that it calls make is longer than what came in: it says more and counts as full. Else prove '..UptoSaid'. A law counts once. -/
mutual
def uptoBulk {H : Type} : DataW H → Nat
  | .lit (.string bytes) => bytes.length + 1
  | .lit _ => 1
  | .nil => 1
  | .ptr d => uptoBulk d + 1
  | .slice elems spare => uptoBulkAll elems + uptoBulkAll spare + 1
  | .agg parts => uptoBulkAll parts + 1
  | .iface _ d => uptoBulk d + 1
  | .map entries => uptoBulkEntries entries + 1
  | .held _ => 1
def uptoBulkAll {H : Type} : List (DataW H) → Nat
  | [] => 0
  | d :: r => uptoBulk d + uptoBulkAll r
def uptoBulkEntries {H : Type} : List (Lit × DataW H) → Nat
  | [] => 0
  | x :: r => uptoBulkEntry x + uptoBulkEntries r
def uptoBulkEntry {H : Type} : Lit × DataW H → Nat
  | (.string bytes, d) => bytes.length + uptoBulk d + 1
  | (_, d) => uptoBulk d + 1
 end
def uptoSmall : (H : Type) → List (DataW H) → Bool := fun _ ds => decide (uptoBulkAll ds ≤ 1048576)
def OpenSpec.upto (s : _root_.Go.ChangeSpec) : _root_.Go.OpenSpec := { _root_.Go.OpenSpec.ofChange s with cond := some uptoSmall }

/-- 'middenlaw04.OncePlays', WHERE WHAT IT READS IS OF BULK AT MOST 1048576: true; the input reads as it did. -/
def oncePlaysUptoRow : OpenClaim := { program := "ytpghfebnggoacaa", sum := "7df134d596a558fdac8c0efcfe2b759997783302301da8c3dd9356ae843a82e6", func := "midden/middenlaw04.OncePlays", spec := "oncePlays", inPlace := ["sync/atomic.StoreUint64", "sync/atomic.LoadUint64"], unfollowed := true, recurses := true, apart := false, narrowed := true }
def OncePlaysUptoSaid : Prop := oncePlaysUptoRow.holds Try.pinned (OpenSpec.upto oncePlaysSpec)

/-- 'middenlaw04.OnceTasks', WHERE WHAT IT READS IS OF BULK AT MOST 1048576: true; the input reads as it did. -/
def onceTasksUptoRow : OpenClaim := { program := "ytpghfebnggoacaa", sum := "7df134d596a558fdac8c0efcfe2b759997783302301da8c3dd9356ae843a82e6", func := "midden/middenlaw04.OnceTasks", spec := "onceTasks", inPlace := ["sync/atomic.StoreUint64", "sync/atomic.LoadUint64"], unfollowed := true, recurses := true, apart := false, narrowed := true }
def OnceTasksUptoSaid : Prop := onceTasksUptoRow.holds Try.pinned (OpenSpec.upto onceTasksSpec)

/-- 'middenlaw04.OnceSettled', WHERE WHAT IT READS IS OF BULK AT MOST 1048576: true; the input reads as it did. -/
def onceSettledUptoRow : OpenClaim := { program := "ytpghfebnggoacaa", sum := "7df134d596a558fdac8c0efcfe2b759997783302301da8c3dd9356ae843a82e6", func := "midden/middenlaw04.OnceSettled", spec := "onceSettled", inPlace := ["sync/atomic.StoreUint64", "sync/atomic.LoadUint64"], unfollowed := true, recurses := true, apart := false, narrowed := true }
def OnceSettledUptoSaid : Prop := onceSettledUptoRow.holds Try.pinned (OpenSpec.upto onceSettledSpec)

/-- 'middenlaw05.TallyPlays', WHERE WHAT IT READS IS OF BULK AT MOST 1048576: true; the input reads as it did. -/
def tallyPlaysUptoRow : OpenClaim := { program := "ytpghfebnggoacaa", sum := "7df134d596a558fdac8c0efcfe2b759997783302301da8c3dd9356ae843a82e6", func := "midden/middenlaw05.TallyPlays", spec := "tallyPlays", inPlace := ["sync/atomic.StoreUint64", "sync/atomic.LoadUint64"], unfollowed := true, recurses := true, apart := false, narrowed := true }
def TallyPlaysUptoSaid : Prop := tallyPlaysUptoRow.holds Try.pinned (OpenSpec.upto tallyPlaysSpec)

/-- 'middenlaw05.TallyFaces', WHERE WHAT IT READS IS OF BULK AT MOST 1048576: true; the input reads as it did. -/
def tallyFacesUptoRow : OpenClaim := { program := "ytpghfebnggoacaa", sum := "7df134d596a558fdac8c0efcfe2b759997783302301da8c3dd9356ae843a82e6", func := "midden/middenlaw05.TallyFaces", spec := "tallyFaces", inPlace := ["sync/atomic.StoreUint64", "sync/atomic.LoadUint64"], unfollowed := true, recurses := true, apart := false, narrowed := true }
def TallyFacesUptoSaid : Prop := tallyFacesUptoRow.holds Try.pinned (OpenSpec.upto tallyFacesSpec)

/-- 'middenlaw05.TallyNothingLost', WHERE WHAT IT READS IS OF BULK AT MOST 1048576: true; the input reads as it did. -/
def tallyNothingLostUptoRow : OpenClaim := { program := "ytpghfebnggoacaa", sum := "7df134d596a558fdac8c0efcfe2b759997783302301da8c3dd9356ae843a82e6", func := "midden/middenlaw05.TallyNothingLost", spec := "tallyNothingLost", inPlace := ["sync/atomic.StoreUint64", "sync/atomic.LoadUint64"], unfollowed := true, recurses := true, apart := false, narrowed := true }
def TallyNothingLostUptoSaid : Prop := tallyNothingLostUptoRow.holds Try.pinned (OpenSpec.upto tallyNothingLostSpec)

end Rows
end Go.Proofs.Ytpghfebnggoacaa
