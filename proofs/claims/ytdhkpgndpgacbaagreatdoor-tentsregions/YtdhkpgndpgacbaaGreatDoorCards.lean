/-
  DERIVED. GIVEN WITH THE SEED: THE CARDS: each row of YtdhkpgndpgacbaaGreatDoorRows.lean that lists a variable, with what it lists TIED to the program's text (the seventh form; the later family's looks); each row that meets fmt, with fmt's text TOLD by the authors' own Lean function (tested against real Go, not proved from fmt's source: count such statements apart). THE CARD IS WHAT COUNTS. Prove the row's statement (the work); the ties are given (YtdhkpgndpgacbaaGreatDoorTie.lean); close each card by the builder's one call (the guide's Derived/Test/ToyasCard.lean, 'card_holds'). Laid BY PROGRAM, IN A SANDBOX (cutbox-door.mjs). By AI agents, Wed Nov 11 2026. No macro, syntax, notation, axiom, sorry.
-/
import Derived.Test.YtdhkpgndpgacbaaGreatDoorRows
import GoSem.ClaimSeven
namespace Go.Proofs.YtdhkpgndpgacbaaGreatDoor
namespace Rows

/-- THE TIED CARD OF 'foundrylaw09.TentsRegions'. -/
def tentsRegionsCard : Claim7 := { stood := { row := tentsRegionsRow, standIns := [], harness := (true, "d2fef19d6c92f9147ea1bc26e146f5bb490f55c7e2e59fb6e02c0c34ed252103"), looks := false }, kinds := [], alts := [], laidByText := true, laidKinds := [.data, .data, .data], laidTests := true, laidLooks := .later }
def TentsRegionsCardSaid : Prop := Claim7.holds Tryz.pinned (.plain (OpenSpec.ofChange tentsRegionsSpec)) tentsRegionsCard

/-- THE SECOND FORM's CARD OF 'foundrylaw09.TentsRegions'. -/
def tentsRegionsUptoCard : Claim7 := { stood := { row := tentsRegionsUptoRow, standIns := [], harness := (true, "d2fef19d6c92f9147ea1bc26e146f5bb490f55c7e2e59fb6e02c0c34ed252103"), looks := false }, kinds := [], alts := [], laidByText := true, laidKinds := [.data, .data, .data], laidTests := true, laidLooks := .later }
def TentsRegionsUptoCardSaid : Prop := Claim7.holds Tryz.pinned (.plain (OpenSpec.upto tentsRegionsSpec)) tentsRegionsUptoCard
end Rows
end Go.Proofs.YtdhkpgndpgacbaaGreatDoor
