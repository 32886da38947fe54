/-
  No cell of these rows narrows 'for every input' (looked for: loops, veiled, ifaces, maps, wideKeys, modest, calm, conditions, laid).
  DERIVED. THE GIVEN ROWS OF THIS SEAT. 2 by the template 'for every input the law returns true; each argument reads behind the call as it read before'; 0 by the template 'total and deterministic' (their statements: YtchhkoalibapiaaTotals.lean).
  GIVEN WITH THE SEED: the statements are not yours to turn. If you find one false, say at which input.
  Laid BY PROGRAM, IN A SANDBOX (cutbox-rows.mjs): the forced cells as the released guide's own fill.sh prints them over the translation d1855d9bb48a18b9… (all of the seat's roots in one cut). By AI agents, Wed Nov 11 2026. No macro, syntax, notation, axiom, sorry.
-/
import Derived.Test.YtchhkoalibapiaaChecked
import GoSem.Claim
import GoSem.ClaimJoined
import GoSem.ClaimMapViews
import Derived.JoinedTies
import Derived.KernelRfl
namespace Go.Proofs.Ytchhkoalibapiaa
/- THE CELL 'sum', in the pinned program and in every row, IS THE sha256 OF THE DUMP (.gsa) THAT YtchhkoalibapiaaProg.lean LOADS. Nothing in Lean hashes anything: it is a label: what it is worth is what the hold of that sum in a sandbox is worth. -/
noncomputable def Try.pinned : Pinned := { name := "ytchhkoalibapiaa", sum := "d1855d9bb48a18b9036af990dcfecde207a3b15c8391d5b91a587d85e1c301d7", checked := Try.checked }
namespace Rows
def none {H : Type} : Left H := { results := [], args := [] }

/-- 'middenlaw07.BeltPlays': WHATEVER THE INPUT: true; the input reads as it did. -/
def beltPlaysSpec : ChangeSpec := { name := "beltPlays", fn := fun _ => fun
  | [d] => { results := [.lit (.bool true)], args := [d] }
  | _ => none }
def beltPlaysRow : OpenClaim := { program := "ytchhkoalibapiaa", sum := "d1855d9bb48a18b9036af990dcfecde207a3b15c8391d5b91a587d85e1c301d7", func := "midden/middenlaw07.BeltPlays", spec := "beltPlays", inPlace := ["sync/atomic.StoreUint64", "sync/atomic.LoadUint64"], unfollowed := true, recurses := true, apart := false }
def BeltPlaysSaid : Prop := beltPlaysRow.holds Try.pinned (OpenSpec.ofChange beltPlaysSpec)

/-- ITS FALSE NEIGHBOUR: 'it returns false'. Refute it at one input. -/
def beltPlaysWrong : ChangeSpec := { name := "beltPlays", fn := fun _ => fun
  | [d] => { results := [.lit (.bool false)], args := [d] }
  | _ => none }
def BeltPlaysWrongFalsely : Prop := beltPlaysRow.holds Try.pinned (OpenSpec.ofChange beltPlaysWrong)

/-- 'middenlaw07.BeltOrder': WHATEVER THE INPUT: true; the input reads as it did. -/
def beltOrderSpec : ChangeSpec := { name := "beltOrder", fn := fun _ => fun
  | [d1, d2, d3] => { results := [.lit (.bool true)], args := [d1, d2, d3] }
  | _ => none }
def beltOrderRow : OpenClaim := { program := "ytchhkoalibapiaa", sum := "d1855d9bb48a18b9036af990dcfecde207a3b15c8391d5b91a587d85e1c301d7", func := "midden/middenlaw07.BeltOrder", spec := "beltOrder", inPlace := ["sync/atomic.StoreUint64", "sync/atomic.LoadUint64"], unfollowed := true, recurses := true, apart := false }
def BeltOrderSaid : Prop := beltOrderRow.holds Try.pinned (OpenSpec.ofChange beltOrderSpec)

/-- ITS FALSE NEIGHBOUR: 'it returns false'. Refute it at one input. -/
def beltOrderWrong : ChangeSpec := { name := "beltOrder", fn := fun _ => fun
  | [d1, d2, d3] => { results := [.lit (.bool false)], args := [d1, d2, d3] }
  | _ => none }
def BeltOrderWrongFalsely : Prop := beltOrderRow.holds Try.pinned (OpenSpec.ofChange beltOrderWrong)

/- THE SECOND FORM. 'bulk': how many values and letters a reading holds, each counted each time it is reached (what is shared counts as often as it is met; a slice's spare places count too). A statement '..UptoSaid' is the law's where the arguments, and the package variables that the reading takes, are together of bulk at most 1048576: NARROWER than '..Said'. Prove '..Said' where nothing that the law and all that it calls make is longer than what came in: it says more and counts as full. Else prove '..UptoSaid'. A law counts once. -/
mutual
def uptoBulk {H : Type} : DataW H → Nat
  | .lit (.string bytes) => bytes.length + 1
  | .lit _ => 1
  | .nil => 1
  | .ptr d => uptoBulk d + 1
  | .slice elems spare => uptoBulkAll elems + uptoBulkAll spare + 1
  | .agg parts => uptoBulkAll parts + 1
  | .iface _ d => uptoBulk d + 1
  | .map entries => uptoBulkEntries entries + 1
  | .held _ => 1
def uptoBulkAll {H : Type} : List (DataW H) → Nat
  | [] => 0
  | d :: r => uptoBulk d + uptoBulkAll r
def uptoBulkEntries {H : Type} : List (Lit × DataW H) → Nat
  | [] => 0
  | x :: r => uptoBulkEntry x + uptoBulkEntries r
def uptoBulkEntry {H : Type} : Lit × DataW H → Nat
  | (.string bytes, d) => bytes.length + uptoBulk d + 1
  | (_, d) => uptoBulk d + 1
 end
def uptoSmall : (H : Type) → List (DataW H) → Bool := fun _ ds => decide (uptoBulkAll ds ≤ 1048576)
def OpenSpec.upto (s : _root_.Go.ChangeSpec) : _root_.Go.OpenSpec := { _root_.Go.OpenSpec.ofChange s with cond := some uptoSmall }

/-- 'middenlaw07.BeltPlays', WHERE WHAT IT READS IS OF BULK AT MOST 1048576: true; the input reads as it did. -/
def beltPlaysUptoRow : OpenClaim := { program := "ytchhkoalibapiaa", sum := "d1855d9bb48a18b9036af990dcfecde207a3b15c8391d5b91a587d85e1c301d7", func := "midden/middenlaw07.BeltPlays", spec := "beltPlays", inPlace := ["sync/atomic.StoreUint64", "sync/atomic.LoadUint64"], unfollowed := true, recurses := true, apart := false, narrowed := true }
def BeltPlaysUptoSaid : Prop := beltPlaysUptoRow.holds Try.pinned (OpenSpec.upto beltPlaysSpec)

/-- 'middenlaw07.BeltOrder', WHERE WHAT IT READS IS OF BULK AT MOST 1048576: true; the input reads as it did. -/
def beltOrderUptoRow : OpenClaim := { program := "ytchhkoalibapiaa", sum := "d1855d9bb48a18b9036af990dcfecde207a3b15c8391d5b91a587d85e1c301d7", func := "midden/middenlaw07.BeltOrder", spec := "beltOrder", inPlace := ["sync/atomic.StoreUint64", "sync/atomic.LoadUint64"], unfollowed := true, recurses := true, apart := false, narrowed := true }
def BeltOrderUptoSaid : Prop := beltOrderUptoRow.holds Try.pinned (OpenSpec.upto beltOrderSpec)

end Rows
end Go.Proofs.Ytchhkoalibapiaa
