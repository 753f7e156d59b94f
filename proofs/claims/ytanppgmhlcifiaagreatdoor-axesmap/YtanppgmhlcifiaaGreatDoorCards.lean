/-
  DERIVED. GIVEN WITH THE SEED: THE CARDS: each row of YtanppgmhlcifiaaGreatDoorRows.lean that lists a variable, with what it lists TIED to the program's text (the seventh form; the later family's looks); each row that meets fmt, with fmt's text TOLD by the authors' own Lean function (tested against real Go, not proved from fmt's source: count such statements apart). THE CARD IS WHAT COUNTS. Prove the row's statement (the work); the ties are given (YtanppgmhlcifiaaGreatDoorTie.lean); close each card by the builder's one call (the guide's Derived/Test/ToyasCard.lean, 'card_holds'). Laid BY PROGRAM, IN A SANDBOX (cutbox-door.mjs). By AI agents, Wed Nov 11 2026. No macro, syntax, notation, axiom, sorry.
-/
import Derived.Test.YtanppgmhlcifiaaGreatDoorRows
import GoSem.ClaimSeven
namespace Go.Proofs.YtanppgmhlcifiaaGreatDoor
namespace Rows

/-- THE TIED CARD OF 'foundrylaw06.AxesMap'. -/
def axesMapCard : Claim7 := { stood := { row := axesMapRow, standIns := [], harness := (true, "943065211cd81dd880a89a0805984da43a7d3f8c0609a3ab93951e3e1b52490e"), looks := false }, kinds := [], alts := [], laidByText := true, laidKinds := [.data, .data, .data], laidTests := true, laidLooks := .later }
def AxesMapCardSaid : Prop := Claim7.holds Tryz.pinned (.plain (OpenSpec.ofChange axesMapSpec)) axesMapCard

/-- THE TIED CARD OF 'foundrylaw06.AxesBytes'. -/
def axesBytesCard : Claim7 := { stood := { row := axesBytesRow, standIns := [], harness := (true, "943065211cd81dd880a89a0805984da43a7d3f8c0609a3ab93951e3e1b52490e"), looks := false }, kinds := [], alts := [], laidByText := true, laidKinds := [.data, .data, .data], laidTests := true, laidLooks := .later }
def AxesBytesCardSaid : Prop := Claim7.holds Tryz.pinned (.plain (OpenSpec.ofChange axesBytesSpec)) axesBytesCard

/-- THE SECOND FORM's CARD OF 'foundrylaw06.AxesMap'. -/
def axesMapUptoCard : Claim7 := { stood := { row := axesMapUptoRow, standIns := [], harness := (true, "943065211cd81dd880a89a0805984da43a7d3f8c0609a3ab93951e3e1b52490e"), looks := false }, kinds := [], alts := [], laidByText := true, laidKinds := [.data, .data, .data], laidTests := true, laidLooks := .later }
def AxesMapUptoCardSaid : Prop := Claim7.holds Tryz.pinned (.plain (OpenSpec.upto axesMapSpec)) axesMapUptoCard

/-- THE SECOND FORM's CARD OF 'foundrylaw06.AxesBytes'. -/
def axesBytesUptoCard : Claim7 := { stood := { row := axesBytesUptoRow, standIns := [], harness := (true, "943065211cd81dd880a89a0805984da43a7d3f8c0609a3ab93951e3e1b52490e"), looks := false }, kinds := [], alts := [], laidByText := true, laidKinds := [.data, .data, .data], laidTests := true, laidLooks := .later }
def AxesBytesUptoCardSaid : Prop := Claim7.holds Tryz.pinned (.plain (OpenSpec.upto axesBytesSpec)) axesBytesUptoCard
end Rows
end Go.Proofs.YtanppgmhlcifiaaGreatDoor
