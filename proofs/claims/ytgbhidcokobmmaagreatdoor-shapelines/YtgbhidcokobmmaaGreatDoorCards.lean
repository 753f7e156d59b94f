/-
  DERIVED. GIVEN WITH THE SEED: THE CARDS: each row of YtgbhidcokobmmaaGreatDoorRows.lean that lists a variable, with what it lists TIED to the program's text (the seventh form; the later family's looks); each row that meets fmt, with fmt's text TOLD by the authors' own Lean function (tested against real Go, not proved from fmt's source: count such statements apart). THE CARD IS WHAT COUNTS. Prove the row's statement (the work); the ties are given (YtgbhidcokobmmaaGreatDoorTie.lean); close each card by the builder's one call (the guide's Derived/Test/ToyasCard.lean, 'card_holds'). Laid BY PROGRAM, IN A SANDBOX (cutbox-door.mjs). By AI agents, Wed Nov 11 2026. No macro, syntax, notation, axiom, sorry.
-/
import Derived.Test.YtgbhidcokobmmaaGreatDoorRows
import GoSem.ClaimSeven
namespace Go.Proofs.YtgbhidcokobmmaaGreatDoor
namespace Rows

/-- THE TIED CARD OF 'foundrylaw23.ShapeLines'. -/
def shapeLinesCard : Claim7 := { stood := { row := shapeLinesRow, standIns := [], harness := (true, "9550192e5972bab45b4dea5a4540f3a768c83359df1cb65ca6903fa22b48755d"), looks := false }, kinds := [], alts := [], laidByText := true, laidKinds := [.data], laidTests := true, laidLooks := .later }
def ShapeLinesCardSaid : Prop := Claim7.holds Tryz.pinned (.plain (OpenSpec.ofChange shapeLinesSpec)) shapeLinesCard

/-- THE TIED CARD OF 'foundrylaw23.ShapePlain'. -/
def shapePlainCard : Claim7 := { stood := { row := shapePlainRow, standIns := [], harness := (true, "9550192e5972bab45b4dea5a4540f3a768c83359df1cb65ca6903fa22b48755d"), looks := false }, kinds := [], alts := [], laidByText := true, laidKinds := [.data], laidTests := true, laidLooks := .later }
def ShapePlainCardSaid : Prop := Claim7.holds Tryz.pinned (.plain (OpenSpec.ofChange shapePlainSpec)) shapePlainCard

/-- THE TIED CARD OF 'foundrylaw23.ShapeGlyphs'. -/
def shapeGlyphsCard : Claim7 := { stood := { row := shapeGlyphsRow, standIns := [], harness := (true, "9550192e5972bab45b4dea5a4540f3a768c83359df1cb65ca6903fa22b48755d"), looks := false }, kinds := [], alts := [], laidByText := true, laidKinds := [.data], laidTests := true, laidLooks := .later }
def ShapeGlyphsCardSaid : Prop := Claim7.holds Tryz.pinned (.plain (OpenSpec.ofChange shapeGlyphsSpec)) shapeGlyphsCard

/-- THE TIED CARD OF 'foundrylaw23.ShapeStill'. -/
def shapeStillCard : Claim7 := { stood := { row := shapeStillRow, standIns := [], harness := (true, "9550192e5972bab45b4dea5a4540f3a768c83359df1cb65ca6903fa22b48755d"), looks := false }, kinds := [], alts := [], laidByText := true, laidKinds := [.data], laidTests := true, laidLooks := .later }
def ShapeStillCardSaid : Prop := Claim7.holds Tryz.pinned (.plain (OpenSpec.ofChange shapeStillSpec)) shapeStillCard

/-- THE TIED CARD OF 'foundrylaw23.ShapeWidth'. -/
def shapeWidthCard : Claim7 := { stood := { row := shapeWidthRow, standIns := [], harness := (true, "9550192e5972bab45b4dea5a4540f3a768c83359df1cb65ca6903fa22b48755d"), looks := false }, kinds := [], alts := [], laidByText := true, laidKinds := [.data], laidTests := true, laidLooks := .later }
def ShapeWidthCardSaid : Prop := Claim7.holds Tryz.pinned (.plain (OpenSpec.ofChange shapeWidthSpec)) shapeWidthCard

/-- THE SECOND FORM's CARD OF 'foundrylaw23.ShapeLines'. -/
def shapeLinesUptoCard : Claim7 := { stood := { row := shapeLinesUptoRow, standIns := [], harness := (true, "9550192e5972bab45b4dea5a4540f3a768c83359df1cb65ca6903fa22b48755d"), looks := false }, kinds := [], alts := [], laidByText := true, laidKinds := [.data], laidTests := true, laidLooks := .later }
def ShapeLinesUptoCardSaid : Prop := Claim7.holds Tryz.pinned (.plain (OpenSpec.upto shapeLinesSpec)) shapeLinesUptoCard

/-- THE SECOND FORM's CARD OF 'foundrylaw23.ShapePlain'. -/
def shapePlainUptoCard : Claim7 := { stood := { row := shapePlainUptoRow, standIns := [], harness := (true, "9550192e5972bab45b4dea5a4540f3a768c83359df1cb65ca6903fa22b48755d"), looks := false }, kinds := [], alts := [], laidByText := true, laidKinds := [.data], laidTests := true, laidLooks := .later }
def ShapePlainUptoCardSaid : Prop := Claim7.holds Tryz.pinned (.plain (OpenSpec.upto shapePlainSpec)) shapePlainUptoCard

/-- THE SECOND FORM's CARD OF 'foundrylaw23.ShapeGlyphs'. -/
def shapeGlyphsUptoCard : Claim7 := { stood := { row := shapeGlyphsUptoRow, standIns := [], harness := (true, "9550192e5972bab45b4dea5a4540f3a768c83359df1cb65ca6903fa22b48755d"), looks := false }, kinds := [], alts := [], laidByText := true, laidKinds := [.data], laidTests := true, laidLooks := .later }
def ShapeGlyphsUptoCardSaid : Prop := Claim7.holds Tryz.pinned (.plain (OpenSpec.upto shapeGlyphsSpec)) shapeGlyphsUptoCard

/-- THE SECOND FORM's CARD OF 'foundrylaw23.ShapeStill'. -/
def shapeStillUptoCard : Claim7 := { stood := { row := shapeStillUptoRow, standIns := [], harness := (true, "9550192e5972bab45b4dea5a4540f3a768c83359df1cb65ca6903fa22b48755d"), looks := false }, kinds := [], alts := [], laidByText := true, laidKinds := [.data], laidTests := true, laidLooks := .later }
def ShapeStillUptoCardSaid : Prop := Claim7.holds Tryz.pinned (.plain (OpenSpec.upto shapeStillSpec)) shapeStillUptoCard

/-- THE SECOND FORM's CARD OF 'foundrylaw23.ShapeWidth'. -/
def shapeWidthUptoCard : Claim7 := { stood := { row := shapeWidthUptoRow, standIns := [], harness := (true, "9550192e5972bab45b4dea5a4540f3a768c83359df1cb65ca6903fa22b48755d"), looks := false }, kinds := [], alts := [], laidByText := true, laidKinds := [.data], laidTests := true, laidLooks := .later }
def ShapeWidthUptoCardSaid : Prop := Claim7.holds Tryz.pinned (.plain (OpenSpec.upto shapeWidthSpec)) shapeWidthUptoCard
end Rows
end Go.Proofs.YtgbhidcokobmmaaGreatDoor
