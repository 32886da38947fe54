/-
  No cell of these rows narrows 'for every input' (looked for: loops, veiled, ifaces, maps, wideKeys, modest, calm, conditions, laid).
  DERIVED. THE GIVEN ROWS OF THIS SEAT. 4 by the template 'for every input the law returns true; each argument reads behind the call as it read before'; 0 by the template 'total and deterministic' (their statements: YtppgbndoijppnaaGreatTotals.lean).
  GIVEN WITH THE SEED: the statements are not yours to turn. If you find one false, say at which input.
  Laid BY PROGRAM, IN A SANDBOX (cutbox-rows.mjs): the forced cells as the released guide's own fill.sh prints them over the translation cfcded64484c0f30… (all of the seat's roots in one cut). By AI agents, Wed Nov 11 2026. No macro, syntax, notation, axiom, sorry.
-/
import Derived.Test.YtppgbndoijppnaaGreatChecked
import GoSem.Claim
import GoSem.ClaimJoined
import GoSem.ClaimMapViews
import Derived.JoinedTies
import Derived.KernelRfl
namespace Go.Proofs.YtppgbndoijppnaaGreat
/- THE CELL 'sum', in the pinned program and in every row, IS THE sha256 OF THE DUMP (.gsa) THAT YtppgbndoijppnaaGreatProg.lean LOADS. Nothing in Lean hashes anything: it is a label: what it is worth is what the hold of that sum in a sandbox is worth. -/
noncomputable def Tryz.pinned : Pinned := { name := "ytppgbndoijppnaagreat", sum := "cfcded64484c0f305aee9d3a93b2d82c8e2812db3995b73d501448b98d9c2e25", checked := Tryz.checked }
namespace Rows
def none {H : Type} : Left H := { results := [], args := [] }

/-- 'middenlaw17.RoomPlays': WHATEVER THE INPUT: true; the input reads as it did. -/
def roomPlaysSpec : ChangeSpec := { name := "roomPlays", fn := fun _ => fun
  | [d] => { results := [.lit (.bool true)], args := [d] }
  | _ => none }
def roomPlaysRow : OpenClaim := { program := "ytppgbndoijppnaagreat", sum := "cfcded64484c0f305aee9d3a93b2d82c8e2812db3995b73d501448b98d9c2e25", func := "midden/middenlaw17.RoomPlays", spec := "roomPlays", inPlace := ["sync/atomic.StoreUint64", "sync/atomic.LoadUint64", "sync/atomic.SwapUint64", "sync/atomic.AddUint64", "sync/atomic.CompareAndSwapUint64"], unfollowed := true, recurses := true, apart := false }
def RoomPlaysSaid : Prop := roomPlaysRow.holds Tryz.pinned (OpenSpec.ofChange roomPlaysSpec)

/-- ITS FALSE NEIGHBOUR: 'it returns false'. Refute it at one input. -/
def roomPlaysWrong : ChangeSpec := { name := "roomPlays", fn := fun _ => fun
  | [d] => { results := [.lit (.bool false)], args := [d] }
  | _ => none }
def RoomPlaysWrongFalsely : Prop := roomPlaysRow.holds Tryz.pinned (OpenSpec.ofChange roomPlaysWrong)

/-- 'middenlaw17.RoomTasks': WHATEVER THE INPUT: true; the input reads as it did. -/
def roomTasksSpec : ChangeSpec := { name := "roomTasks", fn := fun _ => fun
  | [d] => { results := [.lit (.bool true)], args := [d] }
  | _ => none }
def roomTasksRow : OpenClaim := { program := "ytppgbndoijppnaagreat", sum := "cfcded64484c0f305aee9d3a93b2d82c8e2812db3995b73d501448b98d9c2e25", func := "midden/middenlaw17.RoomTasks", spec := "roomTasks", inPlace := ["sync/atomic.StoreUint64", "sync/atomic.LoadUint64", "sync/atomic.SwapUint64", "sync/atomic.AddUint64", "sync/atomic.CompareAndSwapUint64"], unfollowed := true, recurses := true, apart := false }
def RoomTasksSaid : Prop := roomTasksRow.holds Tryz.pinned (OpenSpec.ofChange roomTasksSpec)

/-- ITS FALSE NEIGHBOUR: 'it returns false'. Refute it at one input. -/
def roomTasksWrong : ChangeSpec := { name := "roomTasks", fn := fun _ => fun
  | [d] => { results := [.lit (.bool false)], args := [d] }
  | _ => none }
def RoomTasksWrongFalsely : Prop := roomTasksRow.holds Tryz.pinned (OpenSpec.ofChange roomTasksWrong)

/-- 'middenlaw17.RoomTouches': WHATEVER THE INPUT: true; the input reads as it did. -/
def roomTouchesSpec : ChangeSpec := { name := "roomTouches", fn := fun _ => fun
  | [d] => { results := [.lit (.bool true)], args := [d] }
  | _ => none }
def roomTouchesRow : OpenClaim := { program := "ytppgbndoijppnaagreat", sum := "cfcded64484c0f305aee9d3a93b2d82c8e2812db3995b73d501448b98d9c2e25", func := "midden/middenlaw17.RoomTouches", spec := "roomTouches", inPlace := ["sync/atomic.StoreUint64", "sync/atomic.LoadUint64", "sync/atomic.SwapUint64", "sync/atomic.AddUint64", "sync/atomic.CompareAndSwapUint64"], unfollowed := true, recurses := true, apart := false }
def RoomTouchesSaid : Prop := roomTouchesRow.holds Tryz.pinned (OpenSpec.ofChange roomTouchesSpec)

/-- ITS FALSE NEIGHBOUR: 'it returns false'. Refute it at one input. -/
def roomTouchesWrong : ChangeSpec := { name := "roomTouches", fn := fun _ => fun
  | [d] => { results := [.lit (.bool false)], args := [d] }
  | _ => none }
def RoomTouchesWrongFalsely : Prop := roomTouchesRow.holds Tryz.pinned (OpenSpec.ofChange roomTouchesWrong)

/-- 'middenlaw17.RoomKeeps': WHATEVER THE INPUT: true; the input reads as it did. -/
def roomKeepsSpec : ChangeSpec := { name := "roomKeeps", fn := fun _ => fun
  | [d] => { results := [.lit (.bool true)], args := [d] }
  | _ => none }
def roomKeepsRow : OpenClaim := { program := "ytppgbndoijppnaagreat", sum := "cfcded64484c0f305aee9d3a93b2d82c8e2812db3995b73d501448b98d9c2e25", func := "midden/middenlaw17.RoomKeeps", spec := "roomKeeps", inPlace := ["sync/atomic.StoreUint64", "sync/atomic.LoadUint64", "sync/atomic.SwapUint64", "sync/atomic.AddUint64", "sync/atomic.CompareAndSwapUint64"], unfollowed := true, recurses := true, apart := false }
def RoomKeepsSaid : Prop := roomKeepsRow.holds Tryz.pinned (OpenSpec.ofChange roomKeepsSpec)

/-- ITS FALSE NEIGHBOUR: 'it returns false'. Refute it at one input. -/
def roomKeepsWrong : ChangeSpec := { name := "roomKeeps", fn := fun _ => fun
  | [d] => { results := [.lit (.bool false)], args := [d] }
  | _ => none }
def RoomKeepsWrongFalsely : Prop := roomKeepsRow.holds Tryz.pinned (OpenSpec.ofChange roomKeepsWrong)

/- THE SECOND FORM. 'bulk': how many values and letters a reading holds, each counted each time it is reached (what is shared counts as often as it is met; a slice's spare places count too). A statement '..UptoSaid' is the law's where the arguments, and the package variables that the reading takes, are together of bulk at most 1048576: NARROWER than '..Said'. Prove '..Said' where nothing that the law and all that it calls make is longer than what came in: it says more and counts as full. Else prove '..UptoSaid'. A law counts once. -/
mutual
def uptoBulk {H : Type} : DataW H → Nat
  | .lit (.string bytes) => bytes.length + 1
  | .lit _ => 1
  | .nil => 1
  | .ptr d => uptoBulk d + 1
  | .slice elems spare => uptoBulkAll elems + uptoBulkAll spare + 1
  | .agg parts => uptoBulkAll parts + 1
  | .iface _ d => uptoBulk d + 1
  | .map entries => uptoBulkEntries entries + 1
  | .held _ => 1
def uptoBulkAll {H : Type} : List (DataW H) → Nat
  | [] => 0
  | d :: r => uptoBulk d + uptoBulkAll r
def uptoBulkEntries {H : Type} : List (Lit × DataW H) → Nat
  | [] => 0
  | x :: r => uptoBulkEntry x + uptoBulkEntries r
def uptoBulkEntry {H : Type} : Lit × DataW H → Nat
  | (.string bytes, d) => bytes.length + uptoBulk d + 1
  | (_, d) => uptoBulk d + 1
 end
def uptoSmall : (H : Type) → List (DataW H) → Bool := fun _ ds => decide (uptoBulkAll ds ≤ 1048576)
def OpenSpec.upto (s : _root_.Go.ChangeSpec) : _root_.Go.OpenSpec := { _root_.Go.OpenSpec.ofChange s with cond := some uptoSmall }

/-- 'middenlaw17.RoomPlays', WHERE WHAT IT READS IS OF BULK AT MOST 1048576: true; the input reads as it did. -/
def roomPlaysUptoRow : OpenClaim := { program := "ytppgbndoijppnaagreat", sum := "cfcded64484c0f305aee9d3a93b2d82c8e2812db3995b73d501448b98d9c2e25", func := "midden/middenlaw17.RoomPlays", spec := "roomPlays", inPlace := ["sync/atomic.StoreUint64", "sync/atomic.LoadUint64", "sync/atomic.SwapUint64", "sync/atomic.AddUint64", "sync/atomic.CompareAndSwapUint64"], unfollowed := true, recurses := true, apart := false, narrowed := true }
def RoomPlaysUptoSaid : Prop := roomPlaysUptoRow.holds Tryz.pinned (OpenSpec.upto roomPlaysSpec)

/-- 'middenlaw17.RoomTasks', WHERE WHAT IT READS IS OF BULK AT MOST 1048576: true; the input reads as it did. -/
def roomTasksUptoRow : OpenClaim := { program := "ytppgbndoijppnaagreat", sum := "cfcded64484c0f305aee9d3a93b2d82c8e2812db3995b73d501448b98d9c2e25", func := "midden/middenlaw17.RoomTasks", spec := "roomTasks", inPlace := ["sync/atomic.StoreUint64", "sync/atomic.LoadUint64", "sync/atomic.SwapUint64", "sync/atomic.AddUint64", "sync/atomic.CompareAndSwapUint64"], unfollowed := true, recurses := true, apart := false, narrowed := true }
def RoomTasksUptoSaid : Prop := roomTasksUptoRow.holds Tryz.pinned (OpenSpec.upto roomTasksSpec)

/-- 'middenlaw17.RoomTouches', WHERE WHAT IT READS IS OF BULK AT MOST 1048576: true; the input reads as it did. -/
def roomTouchesUptoRow : OpenClaim := { program := "ytppgbndoijppnaagreat", sum := "cfcded64484c0f305aee9d3a93b2d82c8e2812db3995b73d501448b98d9c2e25", func := "midden/middenlaw17.RoomTouches", spec := "roomTouches", inPlace := ["sync/atomic.StoreUint64", "sync/atomic.LoadUint64", "sync/atomic.SwapUint64", "sync/atomic.AddUint64", "sync/atomic.CompareAndSwapUint64"], unfollowed := true, recurses := true, apart := false, narrowed := true }
def RoomTouchesUptoSaid : Prop := roomTouchesUptoRow.holds Tryz.pinned (OpenSpec.upto roomTouchesSpec)

/-- 'middenlaw17.RoomKeeps', WHERE WHAT IT READS IS OF BULK AT MOST 1048576: true; the input reads as it did. -/
def roomKeepsUptoRow : OpenClaim := { program := "ytppgbndoijppnaagreat", sum := "cfcded64484c0f305aee9d3a93b2d82c8e2812db3995b73d501448b98d9c2e25", func := "midden/middenlaw17.RoomKeeps", spec := "roomKeeps", inPlace := ["sync/atomic.StoreUint64", "sync/atomic.LoadUint64", "sync/atomic.SwapUint64", "sync/atomic.AddUint64", "sync/atomic.CompareAndSwapUint64"], unfollowed := true, recurses := true, apart := false, narrowed := true }
def RoomKeepsUptoSaid : Prop := roomKeepsUptoRow.holds Tryz.pinned (OpenSpec.upto roomKeepsSpec)

end Rows
end Go.Proofs.YtppgbndoijppnaaGreat
