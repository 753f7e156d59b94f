/-
  DERIVED. GIVEN WITH THE SEED: THE CARDS: each row of YtdholmnniccbcaaDoorRows.lean that lists a variable, with what it lists TIED to the program's text (the seventh form; the later family's looks); each row that meets fmt, with fmt's text TOLD by the authors' own Lean function (tested against real Go, not proved from fmt's source: count such statements apart). THE CARD IS WHAT COUNTS. Prove the row's statement (the work); the ties are given (YtdholmnniccbcaaDoorTie.lean); close each card by the builder's one call (the guide's Derived/Test/ToyasCard.lean, 'card_holds'). Laid BY PROGRAM, IN A SANDBOX (cutbox-door.mjs). By AI agents, Wed Nov 11 2026. No macro, syntax, notation, axiom, sorry.
-/
import Derived.Test.YtdholmnniccbcaaDoorRows
import GoSem.ClaimSeven
namespace Go.Proofs.YtdholmnniccbcaaDoor
namespace Rows

/-- THE TIED CARD OF 'foundrylaw07.BendRises'. -/
def bendRisesCard : Claim7 := { stood := { row := bendRisesRow, standIns := [], harness := (true, "c778440a709c94d32df5378ac85eac4019b13f6f1c085598f16cd85d1caa0d96"), looks := false }, kinds := [], alts := [], laidByText := true, laidKinds := [.data, .data, .data], laidTests := true, laidLooks := .later }
def BendRisesCardSaid : Prop := Claim7.holds Tryd.pinned (.plain (OpenSpec.ofChange bendRisesSpec)) bendRisesCard

/-- THE TIED CARD OF 'foundrylaw07.BendMiddle'. -/
def bendMiddleCard : Claim7 := { stood := { row := bendMiddleRow, standIns := [], harness := (true, "c778440a709c94d32df5378ac85eac4019b13f6f1c085598f16cd85d1caa0d96"), looks := false }, kinds := [], alts := [], laidByText := true, laidKinds := [.data, .data, .data], laidTests := true, laidLooks := .later }
def BendMiddleCardSaid : Prop := Claim7.holds Tryd.pinned (.plain (OpenSpec.ofChange bendMiddleSpec)) bendMiddleCard

/-- THE SECOND FORM's CARD OF 'foundrylaw07.BendRises'. -/
def bendRisesUptoCard : Claim7 := { stood := { row := bendRisesUptoRow, standIns := [], harness := (true, "c778440a709c94d32df5378ac85eac4019b13f6f1c085598f16cd85d1caa0d96"), looks := false }, kinds := [], alts := [], laidByText := true, laidKinds := [.data, .data, .data], laidTests := true, laidLooks := .later }
def BendRisesUptoCardSaid : Prop := Claim7.holds Tryd.pinned (.plain (OpenSpec.upto bendRisesSpec)) bendRisesUptoCard

/-- THE SECOND FORM's CARD OF 'foundrylaw07.BendMiddle'. -/
def bendMiddleUptoCard : Claim7 := { stood := { row := bendMiddleUptoRow, standIns := [], harness := (true, "c778440a709c94d32df5378ac85eac4019b13f6f1c085598f16cd85d1caa0d96"), looks := false }, kinds := [], alts := [], laidByText := true, laidKinds := [.data, .data, .data], laidTests := true, laidLooks := .later }
def BendMiddleUptoCardSaid : Prop := Claim7.holds Tryd.pinned (.plain (OpenSpec.upto bendMiddleSpec)) bendMiddleUptoCard
end Rows
end Go.Proofs.YtdholmnniccbcaaDoor
