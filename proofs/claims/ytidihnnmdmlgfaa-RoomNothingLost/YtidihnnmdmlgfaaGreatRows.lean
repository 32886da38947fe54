/-
  No cell of these rows narrows 'for every input' (looked for: loops, veiled, ifaces, maps, wideKeys, modest, calm, conditions, laid).
  DERIVED. THE GIVEN ROWS OF THIS SEAT. 2 by the template 'for every input the law returns true; each argument reads behind the call as it read before'; 0 by the template 'total and deterministic' (their statements: YtidihnnmdmlgfaaGreatTotals.lean).
  GIVEN WITH THE SEED: the statements are not yours to turn. If you find one false, say at which input.
  Laid BY PROGRAM, IN A SANDBOX (cutbox-rows.mjs): the forced cells as the released guide's own fill.sh prints them over the translation f71e367c938937ba… (all of the seat's roots in one cut). By AI agents, Wed Nov 11 2026. No macro, syntax, notation, axiom, sorry.
-/
import Derived.Test.YtidihnnmdmlgfaaGreatChecked
import GoSem.Claim
import GoSem.ClaimJoined
import GoSem.ClaimMapViews
import Derived.JoinedTies
import Derived.KernelRfl
namespace Go.Proofs.YtidihnnmdmlgfaaGreat
/- THE CELL 'sum', in the pinned program and in every row, IS THE sha256 OF THE DUMP (.gsa) THAT YtidihnnmdmlgfaaGreatProg.lean LOADS. Nothing in Lean hashes anything: it is a label: what it is worth is what the hold of that sum in a sandbox is worth. -/
noncomputable def Tryz.pinned : Pinned := { name := "ytidihnnmdmlgfaagreat", sum := "f71e367c938937ba9ded2b4e037d31a6f58c06fba08e445ef721ddba08f18deb", checked := Tryz.checked }
namespace Rows
def none {H : Type} : Left H := { results := [], args := [] }

/-- 'middenlaw17.RoomEach': WHATEVER THE INPUT: true; the input reads as it did. -/
def roomEachSpec : ChangeSpec := { name := "roomEach", fn := fun _ => fun
  | [d] => { results := [.lit (.bool true)], args := [d] }
  | _ => none }
def roomEachRow : OpenClaim := { program := "ytidihnnmdmlgfaagreat", sum := "f71e367c938937ba9ded2b4e037d31a6f58c06fba08e445ef721ddba08f18deb", func := "midden/middenlaw17.RoomEach", spec := "roomEach", inPlace := ["sync/atomic.StoreUint64", "sync/atomic.LoadUint64", "sync/atomic.SwapUint64", "sync/atomic.AddUint64", "sync/atomic.CompareAndSwapUint64"], unfollowed := true, recurses := true, apart := false }
def RoomEachSaid : Prop := roomEachRow.holds Tryz.pinned (OpenSpec.ofChange roomEachSpec)

/-- ITS FALSE NEIGHBOUR: 'it returns false'. Refute it at one input. -/
def roomEachWrong : ChangeSpec := { name := "roomEach", fn := fun _ => fun
  | [d] => { results := [.lit (.bool false)], args := [d] }
  | _ => none }
def RoomEachWrongFalsely : Prop := roomEachRow.holds Tryz.pinned (OpenSpec.ofChange roomEachWrong)

/-- 'middenlaw17.RoomNothingLost': WHATEVER THE INPUT: true; the input reads as it did. -/
def roomNothingLostSpec : ChangeSpec := { name := "roomNothingLost", fn := fun _ => fun
  | [d] => { results := [.lit (.bool true)], args := [d] }
  | _ => none }
def roomNothingLostRow : OpenClaim := { program := "ytidihnnmdmlgfaagreat", sum := "f71e367c938937ba9ded2b4e037d31a6f58c06fba08e445ef721ddba08f18deb", func := "midden/middenlaw17.RoomNothingLost", spec := "roomNothingLost", inPlace := ["sync/atomic.StoreUint64", "sync/atomic.LoadUint64", "sync/atomic.SwapUint64", "sync/atomic.AddUint64", "sync/atomic.CompareAndSwapUint64"], unfollowed := true, recurses := true, apart := false }
def RoomNothingLostSaid : Prop := roomNothingLostRow.holds Tryz.pinned (OpenSpec.ofChange roomNothingLostSpec)

/-- ITS FALSE NEIGHBOUR: 'it returns false'. Refute it at one input. -/
def roomNothingLostWrong : ChangeSpec := { name := "roomNothingLost", fn := fun _ => fun
  | [d] => { results := [.lit (.bool false)], args := [d] }
  | _ => none }
def RoomNothingLostWrongFalsely : Prop := roomNothingLostRow.holds Tryz.pinned (OpenSpec.ofChange roomNothingLostWrong)

/- THE SECOND FORM. 'bulk': how many values and letters a reading holds, each counted each time it is reached (what is shared counts as often as it is met; a slice's spare places count too). A statement '..UptoSaid' is the law's where the arguments, and the package variables that the reading takes, are together of bulk at most 1048576: NARROWER than '..Said'. Prove '..Said' where nothing that the law and all that it calls make is longer than what came in: it says more and counts as full. Else prove '..UptoSaid'. A law counts once. -/
mutual
def uptoBulk {H : Type} : DataW H → Nat
  | .lit (.string bytes) => bytes.length + 1
  | .lit _ => 1
  | .nil => 1
  | .ptr d => uptoBulk d + 1
  | .slice elems spare => uptoBulkAll elems + uptoBulkAll spare + 1
  | .agg parts => uptoBulkAll parts + 1
  | .iface _ d => uptoBulk d + 1
  | .map entries => uptoBulkEntries entries + 1
  | .held _ => 1
def uptoBulkAll {H : Type} : List (DataW H) → Nat
  | [] => 0
  | d :: r => uptoBulk d + uptoBulkAll r
def uptoBulkEntries {H : Type} : List (Lit × DataW H) → Nat
  | [] => 0
  | x :: r => uptoBulkEntry x + uptoBulkEntries r
def uptoBulkEntry {H : Type} : Lit × DataW H → Nat
  | (.string bytes, d) => bytes.length + uptoBulk d + 1
  | (_, d) => uptoBulk d + 1
 end
def uptoSmall : (H : Type) → List (DataW H) → Bool := fun _ ds => decide (uptoBulkAll ds ≤ 1048576)
def OpenSpec.upto (s : _root_.Go.ChangeSpec) : _root_.Go.OpenSpec := { _root_.Go.OpenSpec.ofChange s with cond := some uptoSmall }

/-- 'middenlaw17.RoomEach', WHERE WHAT IT READS IS OF BULK AT MOST 1048576: true; the input reads as it did. -/
def roomEachUptoRow : OpenClaim := { program := "ytidihnnmdmlgfaagreat", sum := "f71e367c938937ba9ded2b4e037d31a6f58c06fba08e445ef721ddba08f18deb", func := "midden/middenlaw17.RoomEach", spec := "roomEach", inPlace := ["sync/atomic.StoreUint64", "sync/atomic.LoadUint64", "sync/atomic.SwapUint64", "sync/atomic.AddUint64", "sync/atomic.CompareAndSwapUint64"], unfollowed := true, recurses := true, apart := false, narrowed := true }
def RoomEachUptoSaid : Prop := roomEachUptoRow.holds Tryz.pinned (OpenSpec.upto roomEachSpec)

/-- 'middenlaw17.RoomNothingLost', WHERE WHAT IT READS IS OF BULK AT MOST 1048576: true; the input reads as it did. -/
def roomNothingLostUptoRow : OpenClaim := { program := "ytidihnnmdmlgfaagreat", sum := "f71e367c938937ba9ded2b4e037d31a6f58c06fba08e445ef721ddba08f18deb", func := "midden/middenlaw17.RoomNothingLost", spec := "roomNothingLost", inPlace := ["sync/atomic.StoreUint64", "sync/atomic.LoadUint64", "sync/atomic.SwapUint64", "sync/atomic.AddUint64", "sync/atomic.CompareAndSwapUint64"], unfollowed := true, recurses := true, apart := false, narrowed := true }
def RoomNothingLostUptoSaid : Prop := roomNothingLostUptoRow.holds Tryz.pinned (OpenSpec.upto roomNothingLostSpec)

end Rows
end Go.Proofs.YtidihnnmdmlgfaaGreat
