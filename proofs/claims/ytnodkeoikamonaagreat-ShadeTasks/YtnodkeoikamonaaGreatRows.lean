/-
  No cell of these rows narrows 'for every input' (looked for: loops, veiled, ifaces, maps, wideKeys, modest, calm, conditions, laid).
  DERIVED. THE GIVEN ROWS OF THIS SEAT. 2 by the template 'for every input the law returns true; each argument reads behind the call as it read before'; 0 by the template 'total and deterministic' (their statements: YtnodkeoikamonaaGreatTotals.lean).
  GIVEN WITH THE SEED: the statements are not yours to turn. If you find one false, say at which input.
  Laid BY PROGRAM, IN A SANDBOX (cutbox-rows.mjs): the forced cells as the released guide's own fill.sh prints them over the translation c24edacce4688c7a… (all of the seat's roots in one cut). By AI agents, Wed Nov 11 2026. No macro, syntax, notation, axiom, sorry.
-/
import Derived.Test.YtnodkeoikamonaaGreatChecked
import GoSem.Claim
import GoSem.ClaimJoined
import GoSem.ClaimMapViews
import Derived.JoinedTies
import Derived.KernelRfl
namespace Go.Proofs.YtnodkeoikamonaaGreat
/- THE CELL 'sum', in the pinned program and in every row, IS THE sha256 OF THE DUMP (.gsa) THAT YtnodkeoikamonaaGreatProg.lean LOADS. Nothing in Lean hashes anything: it is a label: what it is worth is what the hold of that sum in a sandbox is worth. -/
noncomputable def Tryz.pinned : Pinned := { name := "ytnodkeoikamonaagreat", sum := "c24edacce4688c7ac4d604a71042b85cbb2fef615183099002e4f3f95e6ea9b4", checked := Tryz.checked }
namespace Rows
def none {H : Type} : Left H := { results := [], args := [] }

/-- 'middenlaw16.ShadePlays': WHATEVER THE INPUT: true; the input reads as it did. -/
def shadePlaysSpec : ChangeSpec := { name := "shadePlays", fn := fun _ => fun
  | [d] => { results := [.lit (.bool true)], args := [d] }
  | _ => none }
def shadePlaysRow : OpenClaim := { program := "ytnodkeoikamonaagreat", sum := "c24edacce4688c7ac4d604a71042b85cbb2fef615183099002e4f3f95e6ea9b4", func := "midden/middenlaw16.ShadePlays", spec := "shadePlays", inPlace := ["sync/atomic.StoreUint64", "sync/atomic.LoadUint64", "sync/atomic.SwapUint64", "sync/atomic.AddUint64", "sync/atomic.CompareAndSwapUint64"], unfollowed := true, recurses := true, apart := false }
def ShadePlaysSaid : Prop := shadePlaysRow.holds Tryz.pinned (OpenSpec.ofChange shadePlaysSpec)

/-- ITS FALSE NEIGHBOUR: 'it returns false'. Refute it at one input. -/
def shadePlaysWrong : ChangeSpec := { name := "shadePlays", fn := fun _ => fun
  | [d] => { results := [.lit (.bool false)], args := [d] }
  | _ => none }
def ShadePlaysWrongFalsely : Prop := shadePlaysRow.holds Tryz.pinned (OpenSpec.ofChange shadePlaysWrong)

/-- 'middenlaw16.ShadeTasks': WHATEVER THE INPUT: true; the input reads as it did. -/
def shadeTasksSpec : ChangeSpec := { name := "shadeTasks", fn := fun _ => fun
  | [d] => { results := [.lit (.bool true)], args := [d] }
  | _ => none }
def shadeTasksRow : OpenClaim := { program := "ytnodkeoikamonaagreat", sum := "c24edacce4688c7ac4d604a71042b85cbb2fef615183099002e4f3f95e6ea9b4", func := "midden/middenlaw16.ShadeTasks", spec := "shadeTasks", inPlace := ["sync/atomic.StoreUint64", "sync/atomic.LoadUint64", "sync/atomic.SwapUint64", "sync/atomic.AddUint64", "sync/atomic.CompareAndSwapUint64"], unfollowed := true, recurses := true, apart := false }
def ShadeTasksSaid : Prop := shadeTasksRow.holds Tryz.pinned (OpenSpec.ofChange shadeTasksSpec)

/-- ITS FALSE NEIGHBOUR: 'it returns false'. Refute it at one input. -/
def shadeTasksWrong : ChangeSpec := { name := "shadeTasks", fn := fun _ => fun
  | [d] => { results := [.lit (.bool false)], args := [d] }
  | _ => none }
def ShadeTasksWrongFalsely : Prop := shadeTasksRow.holds Tryz.pinned (OpenSpec.ofChange shadeTasksWrong)

/- THE SECOND FORM. 'bulk': how many values and letters a reading holds, each counted each time it is reached (what is shared counts as often as it is met; a slice's spare places count too). A statement '..UptoSaid' is the law's where the arguments, and the package variables that the reading takes, are together of bulk at most 1048576: NARROWER than '..Said'. Prove '..Said' where nothing that the law and all that it calls make is longer than what came in: it says more and counts as full. Else prove '..UptoSaid'. A law counts once. -/
mutual
def uptoBulk {H : Type} : DataW H → Nat
  | .lit (.string bytes) => bytes.length + 1
  | .lit _ => 1
  | .nil => 1
  | .ptr d => uptoBulk d + 1
  | .slice elems spare => uptoBulkAll elems + uptoBulkAll spare + 1
  | .agg parts => uptoBulkAll parts + 1
  | .iface _ d => uptoBulk d + 1
  | .map entries => uptoBulkEntries entries + 1
  | .held _ => 1
def uptoBulkAll {H : Type} : List (DataW H) → Nat
  | [] => 0
  | d :: r => uptoBulk d + uptoBulkAll r
def uptoBulkEntries {H : Type} : List (Lit × DataW H) → Nat
  | [] => 0
  | x :: r => uptoBulkEntry x + uptoBulkEntries r
def uptoBulkEntry {H : Type} : Lit × DataW H → Nat
  | (.string bytes, d) => bytes.length + uptoBulk d + 1
  | (_, d) => uptoBulk d + 1
 end
def uptoSmall : (H : Type) → List (DataW H) → Bool := fun _ ds => decide (uptoBulkAll ds ≤ 1048576)
def OpenSpec.upto (s : _root_.Go.ChangeSpec) : _root_.Go.OpenSpec := { _root_.Go.OpenSpec.ofChange s with cond := some uptoSmall }

/-- 'middenlaw16.ShadePlays', WHERE WHAT IT READS IS OF BULK AT MOST 1048576: true; the input reads as it did. -/
def shadePlaysUptoRow : OpenClaim := { program := "ytnodkeoikamonaagreat", sum := "c24edacce4688c7ac4d604a71042b85cbb2fef615183099002e4f3f95e6ea9b4", func := "midden/middenlaw16.ShadePlays", spec := "shadePlays", inPlace := ["sync/atomic.StoreUint64", "sync/atomic.LoadUint64", "sync/atomic.SwapUint64", "sync/atomic.AddUint64", "sync/atomic.CompareAndSwapUint64"], unfollowed := true, recurses := true, apart := false, narrowed := true }
def ShadePlaysUptoSaid : Prop := shadePlaysUptoRow.holds Tryz.pinned (OpenSpec.upto shadePlaysSpec)

/-- 'middenlaw16.ShadeTasks', WHERE WHAT IT READS IS OF BULK AT MOST 1048576: true; the input reads as it did. -/
def shadeTasksUptoRow : OpenClaim := { program := "ytnodkeoikamonaagreat", sum := "c24edacce4688c7ac4d604a71042b85cbb2fef615183099002e4f3f95e6ea9b4", func := "midden/middenlaw16.ShadeTasks", spec := "shadeTasks", inPlace := ["sync/atomic.StoreUint64", "sync/atomic.LoadUint64", "sync/atomic.SwapUint64", "sync/atomic.AddUint64", "sync/atomic.CompareAndSwapUint64"], unfollowed := true, recurses := true, apart := false, narrowed := true }
def ShadeTasksUptoSaid : Prop := shadeTasksUptoRow.holds Tryz.pinned (OpenSpec.upto shadeTasksSpec)

end Rows
end Go.Proofs.YtnodkeoikamonaaGreat
