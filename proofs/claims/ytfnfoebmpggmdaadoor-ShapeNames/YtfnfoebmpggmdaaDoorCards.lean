/-
  DERIVED. GIVEN WITH THE SEED: THE CARDS: each row of YtfnfoebmpggmdaaDoorRows.lean that lists a variable, with what it lists TIED to the program's text (the seventh form; the later family's looks); each row that meets fmt, with fmt's text TOLD by the authors' own Lean function (tested against real Go, not proved from fmt's source: count such statements apart). THE CARD IS WHAT COUNTS. Prove the row's statement (the work); the ties are given (YtfnfoebmpggmdaaDoorTie.lean); close each card by the builder's one call (the guide's Derived/Test/ToyasCard.lean, 'card_holds'). Laid BY PROGRAM, IN A SANDBOX (cutbox-door.mjs). By AI agents, Wed Nov 11 2026. No macro, syntax, notation, axiom, sorry.
-/
import Derived.Test.YtfnfoebmpggmdaaDoorRows
import GoSem.ClaimSeven
namespace Go.Proofs.YtfnfoebmpggmdaaDoor
namespace Rows

/-- THE TIED CARD OF 'middenlaw12.ShapePlaces'. -/
def shapePlacesCard : Claim7 := { stood := { row := shapePlacesRow, standIns := [], harness := (true, "6a262a8ff41e79878ad57ecd088fb03559b0ee68054499214a12325586f65134"), looks := false }, kinds := [], alts := [], laidByText := true, laidKinds := [.data, .data, .data, .data], laidTests := true, laidLooks := .later }
def ShapePlacesCardSaid : Prop := Claim7.holds Tryd.pinned (.plain (OpenSpec.ofChange shapePlacesSpec)) shapePlacesCard

/-- THE TIED CARD OF 'middenlaw12.ShapeNames'. -/
def shapeNamesCard : Claim7 := { stood := { row := shapeNamesRow, standIns := [], harness := (true, "6a262a8ff41e79878ad57ecd088fb03559b0ee68054499214a12325586f65134"), looks := false }, kinds := [], alts := [], laidByText := true, laidKinds := [.data, .data, .data, .data], laidTests := true, laidLooks := .later }
def ShapeNamesCardSaid : Prop := Claim7.holds Tryd.pinned (.plain (OpenSpec.ofChange shapeNamesSpec)) shapeNamesCard

/-- THE TIED CARD OF 'middenlaw12.ShapeFresh'. -/
def shapeFreshCard : Claim7 := { stood := { row := shapeFreshRow, standIns := [], harness := (true, "6a262a8ff41e79878ad57ecd088fb03559b0ee68054499214a12325586f65134"), looks := false }, kinds := [], alts := [], laidByText := true, laidKinds := [.data, .data, .data, .data], laidTests := true, laidLooks := .later }
def ShapeFreshCardSaid : Prop := Claim7.holds Tryd.pinned (.plain (OpenSpec.ofChange shapeFreshSpec)) shapeFreshCard

/-- THE SECOND FORM's CARD OF 'middenlaw12.ShapePlaces'. -/
def shapePlacesUptoCard : Claim7 := { stood := { row := shapePlacesUptoRow, standIns := [], harness := (true, "6a262a8ff41e79878ad57ecd088fb03559b0ee68054499214a12325586f65134"), looks := false }, kinds := [], alts := [], laidByText := true, laidKinds := [.data, .data, .data, .data], laidTests := true, laidLooks := .later }
def ShapePlacesUptoCardSaid : Prop := Claim7.holds Tryd.pinned (.plain (OpenSpec.upto shapePlacesSpec)) shapePlacesUptoCard

/-- THE SECOND FORM's CARD OF 'middenlaw12.ShapeNames'. -/
def shapeNamesUptoCard : Claim7 := { stood := { row := shapeNamesUptoRow, standIns := [], harness := (true, "6a262a8ff41e79878ad57ecd088fb03559b0ee68054499214a12325586f65134"), looks := false }, kinds := [], alts := [], laidByText := true, laidKinds := [.data, .data, .data, .data], laidTests := true, laidLooks := .later }
def ShapeNamesUptoCardSaid : Prop := Claim7.holds Tryd.pinned (.plain (OpenSpec.upto shapeNamesSpec)) shapeNamesUptoCard

/-- THE SECOND FORM's CARD OF 'middenlaw12.ShapeFresh'. -/
def shapeFreshUptoCard : Claim7 := { stood := { row := shapeFreshUptoRow, standIns := [], harness := (true, "6a262a8ff41e79878ad57ecd088fb03559b0ee68054499214a12325586f65134"), looks := false }, kinds := [], alts := [], laidByText := true, laidKinds := [.data, .data, .data, .data], laidTests := true, laidLooks := .later }
def ShapeFreshUptoCardSaid : Prop := Claim7.holds Tryd.pinned (.plain (OpenSpec.upto shapeFreshSpec)) shapeFreshUptoCard
end Rows
end Go.Proofs.YtfnfoebmpggmdaaDoor
