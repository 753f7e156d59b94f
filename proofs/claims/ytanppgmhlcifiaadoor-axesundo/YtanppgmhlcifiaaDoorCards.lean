/-
  DERIVED. GIVEN WITH THE SEED: THE CARDS: each row of YtanppgmhlcifiaaDoorRows.lean that lists a variable, with what it lists TIED to the program's text (the seventh form; the later family's looks); each row that meets fmt, with fmt's text TOLD by the authors' own Lean function (tested against real Go, not proved from fmt's source: count such statements apart). THE CARD IS WHAT COUNTS. Prove the row's statement (the work); the ties are given (YtanppgmhlcifiaaDoorTie.lean); close each card by the builder's one call (the guide's Derived/Test/ToyasCard.lean, 'card_holds'). Laid BY PROGRAM, IN A SANDBOX (cutbox-door.mjs). By AI agents, Wed Nov 11 2026. No macro, syntax, notation, axiom, sorry.
-/
import Derived.Test.YtanppgmhlcifiaaDoorRows
import GoSem.ClaimSeven
namespace Go.Proofs.YtanppgmhlcifiaaDoor
namespace Rows

/-- THE TIED CARD OF 'foundrylaw06.AxesTell'. -/
def axesTellCard : Claim7 := { stood := { row := axesTellRow, standIns := [], harness := (true, "2c77b2ba0b1cf59d6686b8c4abd49f7d0dfa4227c7575b5962325375ff7ded4d"), looks := false }, kinds := [], alts := [], laidByText := true, laidKinds := [.data, .data, .data], laidTests := true, laidLooks := .later }
def AxesTellCardSaid : Prop := Claim7.holds Tryd.pinned (.plain (OpenSpec.ofChange axesTellSpec)) axesTellCard

/-- THE TIED CARD OF 'foundrylaw06.AxesBack'. -/
def axesBackCard : Claim7 := { stood := { row := axesBackRow, standIns := [], harness := (true, "2c77b2ba0b1cf59d6686b8c4abd49f7d0dfa4227c7575b5962325375ff7ded4d"), looks := false }, kinds := [], alts := [], laidByText := true, laidKinds := [.data, .data, .data], laidTests := true, laidLooks := .later }
def AxesBackCardSaid : Prop := Claim7.holds Tryd.pinned (.plain (OpenSpec.ofChange axesBackSpec)) axesBackCard

/-- THE TIED CARD OF 'foundrylaw06.AxesRise'. -/
def axesRiseCard : Claim7 := { stood := { row := axesRiseRow, standIns := [], harness := (true, "2c77b2ba0b1cf59d6686b8c4abd49f7d0dfa4227c7575b5962325375ff7ded4d"), looks := false }, kinds := [], alts := [], laidByText := true, laidKinds := [.data, .data, .data], laidTests := true, laidLooks := .later }
def AxesRiseCardSaid : Prop := Claim7.holds Tryd.pinned (.plain (OpenSpec.ofChange axesRiseSpec)) axesRiseCard

/-- THE TIED CARD OF 'foundrylaw06.AxesUndo'. -/
def axesUndoCard : Claim7 := { stood := { row := axesUndoRow, standIns := [], harness := (true, "2c77b2ba0b1cf59d6686b8c4abd49f7d0dfa4227c7575b5962325375ff7ded4d"), looks := false }, kinds := [], alts := [], laidByText := true, laidKinds := [.data, .data, .data], laidTests := true, laidLooks := .later }
def AxesUndoCardSaid : Prop := Claim7.holds Tryd.pinned (.plain (OpenSpec.ofChange axesUndoSpec)) axesUndoCard

/-- THE SECOND FORM's CARD OF 'foundrylaw06.AxesTell'. -/
def axesTellUptoCard : Claim7 := { stood := { row := axesTellUptoRow, standIns := [], harness := (true, "2c77b2ba0b1cf59d6686b8c4abd49f7d0dfa4227c7575b5962325375ff7ded4d"), looks := false }, kinds := [], alts := [], laidByText := true, laidKinds := [.data, .data, .data], laidTests := true, laidLooks := .later }
def AxesTellUptoCardSaid : Prop := Claim7.holds Tryd.pinned (.plain (OpenSpec.upto axesTellSpec)) axesTellUptoCard

/-- THE SECOND FORM's CARD OF 'foundrylaw06.AxesBack'. -/
def axesBackUptoCard : Claim7 := { stood := { row := axesBackUptoRow, standIns := [], harness := (true, "2c77b2ba0b1cf59d6686b8c4abd49f7d0dfa4227c7575b5962325375ff7ded4d"), looks := false }, kinds := [], alts := [], laidByText := true, laidKinds := [.data, .data, .data], laidTests := true, laidLooks := .later }
def AxesBackUptoCardSaid : Prop := Claim7.holds Tryd.pinned (.plain (OpenSpec.upto axesBackSpec)) axesBackUptoCard

/-- THE SECOND FORM's CARD OF 'foundrylaw06.AxesRise'. -/
def axesRiseUptoCard : Claim7 := { stood := { row := axesRiseUptoRow, standIns := [], harness := (true, "2c77b2ba0b1cf59d6686b8c4abd49f7d0dfa4227c7575b5962325375ff7ded4d"), looks := false }, kinds := [], alts := [], laidByText := true, laidKinds := [.data, .data, .data], laidTests := true, laidLooks := .later }
def AxesRiseUptoCardSaid : Prop := Claim7.holds Tryd.pinned (.plain (OpenSpec.upto axesRiseSpec)) axesRiseUptoCard

/-- THE SECOND FORM's CARD OF 'foundrylaw06.AxesUndo'. -/
def axesUndoUptoCard : Claim7 := { stood := { row := axesUndoUptoRow, standIns := [], harness := (true, "2c77b2ba0b1cf59d6686b8c4abd49f7d0dfa4227c7575b5962325375ff7ded4d"), looks := false }, kinds := [], alts := [], laidByText := true, laidKinds := [.data, .data, .data], laidTests := true, laidLooks := .later }
def AxesUndoUptoCardSaid : Prop := Claim7.holds Tryd.pinned (.plain (OpenSpec.upto axesUndoSpec)) axesUndoUptoCard
end Rows
end Go.Proofs.YtanppgmhlcifiaaDoor
