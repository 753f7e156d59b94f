/-
  DERIVED. GIVEN WITH THE SEED: THE CARDS: each row of YthoildjecoppgaaGreatDoorRows.lean that lists a variable, with what it lists TIED to the program's text (the seventh form; the later family's looks); each row that meets fmt, with fmt's text TOLD by the authors' own Lean function (tested against real Go, not proved from fmt's source: count such statements apart). THE CARD IS WHAT COUNTS. Prove the row's statement (the work); the ties are given (YthoildjecoppgaaGreatDoorTie.lean); close each card by the builder's one call (the guide's Derived/Test/ToyasCard.lean, 'card_holds'). Laid BY PROGRAM, IN A SANDBOX (cutbox-door.mjs). By AI agents, Wed Nov 11 2026. No macro, syntax, notation, axiom, sorry.
-/
import Derived.Test.YthoildjecoppgaaGreatDoorRows
import GoSem.ClaimSeven
namespace Go.Proofs.YthoildjecoppgaaGreatDoor
namespace Rows

/-- THE TIED CARD OF 'foundrylaw13.InferFills'. -/
def inferFillsCard : Claim7 := { stood := { row := inferFillsRow, standIns := [], harness := (true, "3ff4d975b8788b0da920ffd37430e9f4fd4bdadadd7a0ff2d258ecbde9f3d01a"), looks := false }, kinds := [], alts := [], laidByText := true, laidKinds := [.data, .data, .data], laidTests := true, laidLooks := .later }
def InferFillsCardSaid : Prop := Claim7.holds Tryz.pinned (.plain (OpenSpec.ofChange inferFillsSpec)) inferFillsCard

/-- THE TIED CARD OF 'foundrylaw13.InferSpreads'. -/
def inferSpreadsCard : Claim7 := { stood := { row := inferSpreadsRow, standIns := [], harness := (true, "3ff4d975b8788b0da920ffd37430e9f4fd4bdadadd7a0ff2d258ecbde9f3d01a"), looks := false }, kinds := [], alts := [], laidByText := true, laidKinds := [.data, .data, .data], laidTests := true, laidLooks := .later }
def InferSpreadsCardSaid : Prop := Claim7.holds Tryz.pinned (.plain (OpenSpec.ofChange inferSpreadsSpec)) inferSpreadsCard

/-- THE SECOND FORM's CARD OF 'foundrylaw13.InferFills'. -/
def inferFillsUptoCard : Claim7 := { stood := { row := inferFillsUptoRow, standIns := [], harness := (true, "3ff4d975b8788b0da920ffd37430e9f4fd4bdadadd7a0ff2d258ecbde9f3d01a"), looks := false }, kinds := [], alts := [], laidByText := true, laidKinds := [.data, .data, .data], laidTests := true, laidLooks := .later }
def InferFillsUptoCardSaid : Prop := Claim7.holds Tryz.pinned (.plain (OpenSpec.upto inferFillsSpec)) inferFillsUptoCard

/-- THE SECOND FORM's CARD OF 'foundrylaw13.InferSpreads'. -/
def inferSpreadsUptoCard : Claim7 := { stood := { row := inferSpreadsUptoRow, standIns := [], harness := (true, "3ff4d975b8788b0da920ffd37430e9f4fd4bdadadd7a0ff2d258ecbde9f3d01a"), looks := false }, kinds := [], alts := [], laidByText := true, laidKinds := [.data, .data, .data], laidTests := true, laidLooks := .later }
def InferSpreadsUptoCardSaid : Prop := Claim7.holds Tryz.pinned (.plain (OpenSpec.upto inferSpreadsSpec)) inferSpreadsUptoCard
end Rows
end Go.Proofs.YthoildjecoppgaaGreatDoor
