/-
  DERIVED. GIVEN WITH THE SEED: THE CARDS: each row of YtdholmnniccbcaaGreatDoorRows.lean that lists a variable, with what it lists TIED to the program's text (the seventh form; the later family's looks); each row that meets fmt, with fmt's text TOLD by the authors' own Lean function (tested against real Go, not proved from fmt's source: count such statements apart). THE CARD IS WHAT COUNTS. Prove the row's statement (the work); the ties are given (YtdholmnniccbcaaGreatDoorTie.lean); close each card by the builder's one call (the guide's Derived/Test/ToyasCard.lean, 'card_holds'). Laid BY PROGRAM, IN A SANDBOX (cutbox-door.mjs). By AI agents, Wed Nov 11 2026. No macro, syntax, notation, axiom, sorry.
-/
import Derived.Test.YtdholmnniccbcaaGreatDoorRows
import GoSem.ClaimSeven
namespace Go.Proofs.YtdholmnniccbcaaGreatDoor
namespace Rows

/-- THE TIED CARD OF 'foundrylaw07.BendTells'. -/
def bendTellsCard : Claim7 := { stood := { row := bendTellsRow, standIns := [], harness := (true, "596760caf4c66b32c66b69843bf250561a0c908b668b88599663079feae83acd"), looks := false }, kinds := [], alts := [], laidByText := true, laidKinds := [.data, .data, .data], laidTests := true, laidLooks := .later }
def BendTellsCardSaid : Prop := Claim7.holds Tryz.pinned (.plain (OpenSpec.ofChange bendTellsSpec)) bendTellsCard

/-- THE TIED CARD OF 'foundrylaw07.BendBytes'. -/
def bendBytesCard : Claim7 := { stood := { row := bendBytesRow, standIns := [], harness := (true, "596760caf4c66b32c66b69843bf250561a0c908b668b88599663079feae83acd"), looks := false }, kinds := [], alts := [], laidByText := true, laidKinds := [.data, .data, .data], laidTests := true, laidLooks := .later }
def BendBytesCardSaid : Prop := Claim7.holds Tryz.pinned (.plain (OpenSpec.ofChange bendBytesSpec)) bendBytesCard

/-- THE TIED CARD OF 'foundrylaw07.BendBack'. -/
def bendBackCard : Claim7 := { stood := { row := bendBackRow, standIns := [], harness := (true, "596760caf4c66b32c66b69843bf250561a0c908b668b88599663079feae83acd"), looks := false }, kinds := [], alts := [], laidByText := true, laidKinds := [.data, .data, .data], laidTests := true, laidLooks := .later }
def BendBackCardSaid : Prop := Claim7.holds Tryz.pinned (.plain (OpenSpec.ofChange bendBackSpec)) bendBackCard

/-- THE SECOND FORM's CARD OF 'foundrylaw07.BendTells'. -/
def bendTellsUptoCard : Claim7 := { stood := { row := bendTellsUptoRow, standIns := [], harness := (true, "596760caf4c66b32c66b69843bf250561a0c908b668b88599663079feae83acd"), looks := false }, kinds := [], alts := [], laidByText := true, laidKinds := [.data, .data, .data], laidTests := true, laidLooks := .later }
def BendTellsUptoCardSaid : Prop := Claim7.holds Tryz.pinned (.plain (OpenSpec.upto bendTellsSpec)) bendTellsUptoCard

/-- THE SECOND FORM's CARD OF 'foundrylaw07.BendBytes'. -/
def bendBytesUptoCard : Claim7 := { stood := { row := bendBytesUptoRow, standIns := [], harness := (true, "596760caf4c66b32c66b69843bf250561a0c908b668b88599663079feae83acd"), looks := false }, kinds := [], alts := [], laidByText := true, laidKinds := [.data, .data, .data], laidTests := true, laidLooks := .later }
def BendBytesUptoCardSaid : Prop := Claim7.holds Tryz.pinned (.plain (OpenSpec.upto bendBytesSpec)) bendBytesUptoCard

/-- THE SECOND FORM's CARD OF 'foundrylaw07.BendBack'. -/
def bendBackUptoCard : Claim7 := { stood := { row := bendBackUptoRow, standIns := [], harness := (true, "596760caf4c66b32c66b69843bf250561a0c908b668b88599663079feae83acd"), looks := false }, kinds := [], alts := [], laidByText := true, laidKinds := [.data, .data, .data], laidTests := true, laidLooks := .later }
def BendBackUptoCardSaid : Prop := Claim7.holds Tryz.pinned (.plain (OpenSpec.upto bendBackSpec)) bendBackUptoCard
end Rows
end Go.Proofs.YtdholmnniccbcaaGreatDoor
