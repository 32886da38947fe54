/-
  No cell of these rows narrows 'for every input' (looked for: loops, veiled, ifaces, maps, wideKeys, modest, calm, conditions, laid).
  DERIVED. THE GIVEN ROWS OF THIS SEAT. 6 by the template 'for every input the law returns true; each argument reads behind the call as it read before'; 0 by the template 'total and deterministic' (their statements: YtnodkeoikamonabTotals.lean).
  GIVEN WITH THE SEED: the statements are not yours to turn. If you find one false, say at which input.
  Laid BY PROGRAM, IN A SANDBOX (cutbox-rows.mjs): the forced cells as the released guide's own fill.sh prints them over the translation e66b8b8c81bcf0c7… (all of the seat's roots in one cut). By AI agents, Wed Nov 11 2026. No macro, syntax, notation, axiom, sorry.
-/
import Derived.Test.YtnodkeoikamonabChecked
import GoSem.Claim
import GoSem.ClaimJoined
import GoSem.ClaimMapViews
import Derived.JoinedTies
import Derived.KernelRfl
namespace Go.Proofs.Ytnodkeoikamonab
/- THE CELL 'sum', in the pinned program and in every row, IS THE sha256 OF THE DUMP (.gsa) THAT YtnodkeoikamonabProg.lean LOADS. Nothing in Lean hashes anything: it is a label: what it is worth is what the hold of that sum in a sandbox is worth. -/
noncomputable def Try.pinned : Pinned := { name := "ytnodkeoikamonab", sum := "e66b8b8c81bcf0c7c4900134898e66e3ed68a0c5a30584d56cfa4c6506d442d6", checked := Try.checked }
namespace Rows
def none {H : Type} : Left H := { results := [], args := [] }

/-- 'middenlaw15.HueTells': WHATEVER THE INPUT: true; the input reads as it did. -/
def hueTellsSpec : ChangeSpec := { name := "hueTells", fn := fun _ => fun
  | [d1, d2] => { results := [.lit (.bool true)], args := [d1, d2] }
  | _ => none }
def hueTellsRow : OpenClaim := { program := "ytnodkeoikamonab", sum := "e66b8b8c81bcf0c7c4900134898e66e3ed68a0c5a30584d56cfa4c6506d442d6", func := "midden/middenlaw15.HueTells", spec := "hueTells", unfollowed := true, recurses := true, apart := false }
def HueTellsSaid : Prop := hueTellsRow.holds Try.pinned (OpenSpec.ofChange hueTellsSpec)

/-- ITS FALSE NEIGHBOUR: 'it returns false'. Refute it at one input. -/
def hueTellsWrong : ChangeSpec := { name := "hueTells", fn := fun _ => fun
  | [d1, d2] => { results := [.lit (.bool false)], args := [d1, d2] }
  | _ => none }
def HueTellsWrongFalsely : Prop := hueTellsRow.holds Try.pinned (OpenSpec.ofChange hueTellsWrong)

/-- 'middenlaw15.HueStrong': WHATEVER THE INPUT: true; the input reads as it did. -/
def hueStrongSpec : ChangeSpec := { name := "hueStrong", fn := fun _ => fun
  | [d1, d2] => { results := [.lit (.bool true)], args := [d1, d2] }
  | _ => none }
def hueStrongRow : OpenClaim := { program := "ytnodkeoikamonab", sum := "e66b8b8c81bcf0c7c4900134898e66e3ed68a0c5a30584d56cfa4c6506d442d6", func := "midden/middenlaw15.HueStrong", spec := "hueStrong", unfollowed := true, recurses := true, apart := false }
def HueStrongSaid : Prop := hueStrongRow.holds Try.pinned (OpenSpec.ofChange hueStrongSpec)

/-- ITS FALSE NEIGHBOUR: 'it returns false'. Refute it at one input. -/
def hueStrongWrong : ChangeSpec := { name := "hueStrong", fn := fun _ => fun
  | [d1, d2] => { results := [.lit (.bool false)], args := [d1, d2] }
  | _ => none }
def HueStrongWrongFalsely : Prop := hueStrongRow.holds Try.pinned (OpenSpec.ofChange hueStrongWrong)

/-- 'middenlaw15.HueDone': WHATEVER THE INPUT: true; the input reads as it did. -/
def hueDoneSpec : ChangeSpec := { name := "hueDone", fn := fun _ => fun
  | [d1, d2] => { results := [.lit (.bool true)], args := [d1, d2] }
  | _ => none }
def hueDoneRow : OpenClaim := { program := "ytnodkeoikamonab", sum := "e66b8b8c81bcf0c7c4900134898e66e3ed68a0c5a30584d56cfa4c6506d442d6", func := "midden/middenlaw15.HueDone", spec := "hueDone", unfollowed := true, recurses := true, apart := false }
def HueDoneSaid : Prop := hueDoneRow.holds Try.pinned (OpenSpec.ofChange hueDoneSpec)

/-- ITS FALSE NEIGHBOUR: 'it returns false'. Refute it at one input. -/
def hueDoneWrong : ChangeSpec := { name := "hueDone", fn := fun _ => fun
  | [d1, d2] => { results := [.lit (.bool false)], args := [d1, d2] }
  | _ => none }
def HueDoneWrongFalsely : Prop := hueDoneRow.holds Try.pinned (OpenSpec.ofChange hueDoneWrong)

/-- 'middenlaw15.HueSteps': WHATEVER THE INPUT: true; the input reads as it did. -/
def hueStepsSpec : ChangeSpec := { name := "hueSteps", fn := fun _ => fun
  | [d1, d2, d3, d4, d5] => { results := [.lit (.bool true)], args := [d1, d2, d3, d4, d5] }
  | _ => none }
def hueStepsRow : OpenClaim := { program := "ytnodkeoikamonab", sum := "e66b8b8c81bcf0c7c4900134898e66e3ed68a0c5a30584d56cfa4c6506d442d6", func := "midden/middenlaw15.HueSteps", spec := "hueSteps", unfollowed := true, recurses := true, apart := false }
def HueStepsSaid : Prop := hueStepsRow.holds Try.pinned (OpenSpec.ofChange hueStepsSpec)

/-- ITS FALSE NEIGHBOUR: 'it returns false'. Refute it at one input. -/
def hueStepsWrong : ChangeSpec := { name := "hueSteps", fn := fun _ => fun
  | [d1, d2, d3, d4, d5] => { results := [.lit (.bool false)], args := [d1, d2, d3, d4, d5] }
  | _ => none }
def HueStepsWrongFalsely : Prop := hueStepsRow.holds Try.pinned (OpenSpec.ofChange hueStepsWrong)

/-- 'middenlaw14.GraphReaches': WHATEVER THE INPUT: true; the input reads as it did. -/
def graphReachesSpec : ChangeSpec := { name := "graphReaches", fn := fun _ => fun
  | [d1, d2] => { results := [.lit (.bool true)], args := [d1, d2] }
  | _ => none }
def graphReachesRow : OpenClaim := { program := "ytnodkeoikamonab", sum := "e66b8b8c81bcf0c7c4900134898e66e3ed68a0c5a30584d56cfa4c6506d442d6", func := "midden/middenlaw14.GraphReaches", spec := "graphReaches", unfollowed := true, recurses := true, apart := false }
def GraphReachesSaid : Prop := graphReachesRow.holds Try.pinned (OpenSpec.ofChange graphReachesSpec)

/-- ITS FALSE NEIGHBOUR: 'it returns false'. Refute it at one input. -/
def graphReachesWrong : ChangeSpec := { name := "graphReaches", fn := fun _ => fun
  | [d1, d2] => { results := [.lit (.bool false)], args := [d1, d2] }
  | _ => none }
def GraphReachesWrongFalsely : Prop := graphReachesRow.holds Try.pinned (OpenSpec.ofChange graphReachesWrong)

/-- 'middenlaw14.GraphKeeps': WHATEVER THE INPUT: true; the input reads as it did. -/
def graphKeepsSpec : ChangeSpec := { name := "graphKeeps", fn := fun _ => fun
  | [d1, d2] => { results := [.lit (.bool true)], args := [d1, d2] }
  | _ => none }
def graphKeepsRow : OpenClaim := { program := "ytnodkeoikamonab", sum := "e66b8b8c81bcf0c7c4900134898e66e3ed68a0c5a30584d56cfa4c6506d442d6", func := "midden/middenlaw14.GraphKeeps", spec := "graphKeeps", unfollowed := true, recurses := true, apart := false }
def GraphKeepsSaid : Prop := graphKeepsRow.holds Try.pinned (OpenSpec.ofChange graphKeepsSpec)

/-- ITS FALSE NEIGHBOUR: 'it returns false'. Refute it at one input. -/
def graphKeepsWrong : ChangeSpec := { name := "graphKeeps", fn := fun _ => fun
  | [d1, d2] => { results := [.lit (.bool false)], args := [d1, d2] }
  | _ => none }
def GraphKeepsWrongFalsely : Prop := graphKeepsRow.holds Try.pinned (OpenSpec.ofChange graphKeepsWrong)

/- THE SECOND FORM. 'bulk': how many values and letters a reading holds, each counted each time it is reached (what is shared counts as often as it is met; a slice's spare places count too). A statement '..UptoSaid' is the law's where the arguments, and the package variables that the reading takes, are together of bulk at most 1048576: NARROWER than '..Said'. Prove '..Said' where nothing that the law and all that it calls make is longer than what came in: it says more and counts as full. Else prove '..UptoSaid'. A law counts once. -/
mutual
def uptoBulk {H : Type} : DataW H → Nat
  | .lit (.string bytes) => bytes.length + 1
  | .lit _ => 1
  | .nil => 1
  | .ptr d => uptoBulk d + 1
  | .slice elems spare => uptoBulkAll elems + uptoBulkAll spare + 1
  | .agg parts => uptoBulkAll parts + 1
  | .iface _ d => uptoBulk d + 1
  | .map entries => uptoBulkEntries entries + 1
  | .held _ => 1
def uptoBulkAll {H : Type} : List (DataW H) → Nat
  | [] => 0
  | d :: r => uptoBulk d + uptoBulkAll r
def uptoBulkEntries {H : Type} : List (Lit × DataW H) → Nat
  | [] => 0
  | x :: r => uptoBulkEntry x + uptoBulkEntries r
def uptoBulkEntry {H : Type} : Lit × DataW H → Nat
  | (.string bytes, d) => bytes.length + uptoBulk d + 1
  | (_, d) => uptoBulk d + 1
 end
def uptoSmall : (H : Type) → List (DataW H) → Bool := fun _ ds => decide (uptoBulkAll ds ≤ 1048576)
def OpenSpec.upto (s : _root_.Go.ChangeSpec) : _root_.Go.OpenSpec := { _root_.Go.OpenSpec.ofChange s with cond := some uptoSmall }

/-- 'middenlaw15.HueTells', WHERE WHAT IT READS IS OF BULK AT MOST 1048576: true; the input reads as it did. -/
def hueTellsUptoRow : OpenClaim := { program := "ytnodkeoikamonab", sum := "e66b8b8c81bcf0c7c4900134898e66e3ed68a0c5a30584d56cfa4c6506d442d6", func := "midden/middenlaw15.HueTells", spec := "hueTells", unfollowed := true, recurses := true, apart := false, narrowed := true }
def HueTellsUptoSaid : Prop := hueTellsUptoRow.holds Try.pinned (OpenSpec.upto hueTellsSpec)

/-- 'middenlaw15.HueStrong', WHERE WHAT IT READS IS OF BULK AT MOST 1048576: true; the input reads as it did. -/
def hueStrongUptoRow : OpenClaim := { program := "ytnodkeoikamonab", sum := "e66b8b8c81bcf0c7c4900134898e66e3ed68a0c5a30584d56cfa4c6506d442d6", func := "midden/middenlaw15.HueStrong", spec := "hueStrong", unfollowed := true, recurses := true, apart := false, narrowed := true }
def HueStrongUptoSaid : Prop := hueStrongUptoRow.holds Try.pinned (OpenSpec.upto hueStrongSpec)

/-- 'middenlaw15.HueDone', WHERE WHAT IT READS IS OF BULK AT MOST 1048576: true; the input reads as it did. -/
def hueDoneUptoRow : OpenClaim := { program := "ytnodkeoikamonab", sum := "e66b8b8c81bcf0c7c4900134898e66e3ed68a0c5a30584d56cfa4c6506d442d6", func := "midden/middenlaw15.HueDone", spec := "hueDone", unfollowed := true, recurses := true, apart := false, narrowed := true }
def HueDoneUptoSaid : Prop := hueDoneUptoRow.holds Try.pinned (OpenSpec.upto hueDoneSpec)

/-- 'middenlaw15.HueSteps', WHERE WHAT IT READS IS OF BULK AT MOST 1048576: true; the input reads as it did. -/
def hueStepsUptoRow : OpenClaim := { program := "ytnodkeoikamonab", sum := "e66b8b8c81bcf0c7c4900134898e66e3ed68a0c5a30584d56cfa4c6506d442d6", func := "midden/middenlaw15.HueSteps", spec := "hueSteps", unfollowed := true, recurses := true, apart := false, narrowed := true }
def HueStepsUptoSaid : Prop := hueStepsUptoRow.holds Try.pinned (OpenSpec.upto hueStepsSpec)

/-- 'middenlaw14.GraphReaches', WHERE WHAT IT READS IS OF BULK AT MOST 1048576: true; the input reads as it did. -/
def graphReachesUptoRow : OpenClaim := { program := "ytnodkeoikamonab", sum := "e66b8b8c81bcf0c7c4900134898e66e3ed68a0c5a30584d56cfa4c6506d442d6", func := "midden/middenlaw14.GraphReaches", spec := "graphReaches", unfollowed := true, recurses := true, apart := false, narrowed := true }
def GraphReachesUptoSaid : Prop := graphReachesUptoRow.holds Try.pinned (OpenSpec.upto graphReachesSpec)

/-- 'middenlaw14.GraphKeeps', WHERE WHAT IT READS IS OF BULK AT MOST 1048576: true; the input reads as it did. -/
def graphKeepsUptoRow : OpenClaim := { program := "ytnodkeoikamonab", sum := "e66b8b8c81bcf0c7c4900134898e66e3ed68a0c5a30584d56cfa4c6506d442d6", func := "midden/middenlaw14.GraphKeeps", spec := "graphKeeps", unfollowed := true, recurses := true, apart := false, narrowed := true }
def GraphKeepsUptoSaid : Prop := graphKeepsUptoRow.holds Try.pinned (OpenSpec.upto graphKeepsSpec)

end Rows
end Go.Proofs.Ytnodkeoikamonab
