/-
  DERIVED. GIVEN WITH THE SEED: THE CARDS: each row of YtechkkefpigcaaaDoorRows.lean that lists a variable, with what it lists TIED to the program's text (the seventh form; the later family's looks); each row that meets fmt, with fmt's text TOLD by the authors' own Lean function (tested against real Go, not proved from fmt's source: count such statements apart). THE CARD IS WHAT COUNTS. Prove the row's statement (the work); the ties are given (YtechkkefpigcaaaDoorTie.lean); close each card by the builder's one call (the guide's Derived/Test/ToyasCard.lean, 'card_holds'). Laid BY PROGRAM, IN A SANDBOX (cutbox-door.mjs). By AI agents, Wed Nov 11 2026. No macro, syntax, notation, axiom, sorry.
-/
import Derived.Test.YtechkkefpigcaaaDoorRows
import GoSem.ClaimSeven
namespace Go.Proofs.YtechkkefpigcaaaDoor
namespace Rows

/-- THE TIED CARD OF 'foundrylaw20.SubstPlaces'. -/
def substPlacesCard : Claim7 := { stood := { row := substPlacesRow, standIns := [], harness := (true, "8d76106d789bc4f0f1eb34824cded1c46b226f57b27bc2450addadca451f698c"), looks := false }, kinds := [], alts := [], laidByText := true, laidKinds := [.data], laidTests := true, laidLooks := .later }
def SubstPlacesCardSaid : Prop := Claim7.holds Tryd.pinned (.plain (OpenSpec.ofChange substPlacesSpec)) substPlacesCard

/-- THE TIED CARD OF 'foundrylaw20.SubstLines'. -/
def substLinesCard : Claim7 := { stood := { row := substLinesRow, standIns := [], harness := (true, "8d76106d789bc4f0f1eb34824cded1c46b226f57b27bc2450addadca451f698c"), looks := false }, kinds := [], alts := [], laidByText := true, laidKinds := [.data], laidTests := true, laidLooks := .later }
def SubstLinesCardSaid : Prop := Claim7.holds Tryd.pinned (.plain (OpenSpec.ofChange substLinesSpec)) substLinesCard

/-- THE TIED CARD OF 'foundrylaw20.SubstLengths'. -/
def substLengthsCard : Claim7 := { stood := { row := substLengthsRow, standIns := [], harness := (true, "8d76106d789bc4f0f1eb34824cded1c46b226f57b27bc2450addadca451f698c"), looks := false }, kinds := [], alts := [], laidByText := true, laidKinds := [.data], laidTests := true, laidLooks := .later }
def SubstLengthsCardSaid : Prop := Claim7.holds Tryd.pinned (.plain (OpenSpec.ofChange substLengthsSpec)) substLengthsCard

/-- THE TIED CARD OF 'foundrylaw20.SubstSingle'. -/
def substSingleCard : Claim7 := { stood := { row := substSingleRow, standIns := [], harness := (true, "8d76106d789bc4f0f1eb34824cded1c46b226f57b27bc2450addadca451f698c"), looks := false }, kinds := [], alts := [], laidByText := true, laidKinds := [.data], laidTests := true, laidLooks := .later }
def SubstSingleCardSaid : Prop := Claim7.holds Tryd.pinned (.plain (OpenSpec.ofChange substSingleSpec)) substSingleCard

/-- THE TIED CARD OF 'foundrylaw20.SubstSplit'. -/
def substSplitCard : Claim7 := { stood := { row := substSplitRow, standIns := [], harness := (true, "8d76106d789bc4f0f1eb34824cded1c46b226f57b27bc2450addadca451f698c"), looks := false }, kinds := [], alts := [], laidByText := true, laidKinds := [.data], laidTests := true, laidLooks := .later }
def SubstSplitCardSaid : Prop := Claim7.holds Tryd.pinned (.plain (OpenSpec.ofChange substSplitSpec)) substSplitCard

/-- THE TIED CARD OF 'foundrylaw20.SubstNest'. -/
def substNestCard : Claim7 := { stood := { row := substNestRow, standIns := [], harness := (true, "8d76106d789bc4f0f1eb34824cded1c46b226f57b27bc2450addadca451f698c"), looks := false }, kinds := [], alts := [], laidByText := true, laidKinds := [.data], laidTests := true, laidLooks := .later }
def SubstNestCardSaid : Prop := Claim7.holds Tryd.pinned (.plain (OpenSpec.ofChange substNestSpec)) substNestCard

/-- THE SECOND FORM's CARD OF 'foundrylaw20.SubstPlaces'. -/
def substPlacesUptoCard : Claim7 := { stood := { row := substPlacesUptoRow, standIns := [], harness := (true, "8d76106d789bc4f0f1eb34824cded1c46b226f57b27bc2450addadca451f698c"), looks := false }, kinds := [], alts := [], laidByText := true, laidKinds := [.data], laidTests := true, laidLooks := .later }
def SubstPlacesUptoCardSaid : Prop := Claim7.holds Tryd.pinned (.plain (OpenSpec.upto substPlacesSpec)) substPlacesUptoCard

/-- THE SECOND FORM's CARD OF 'foundrylaw20.SubstLines'. -/
def substLinesUptoCard : Claim7 := { stood := { row := substLinesUptoRow, standIns := [], harness := (true, "8d76106d789bc4f0f1eb34824cded1c46b226f57b27bc2450addadca451f698c"), looks := false }, kinds := [], alts := [], laidByText := true, laidKinds := [.data], laidTests := true, laidLooks := .later }
def SubstLinesUptoCardSaid : Prop := Claim7.holds Tryd.pinned (.plain (OpenSpec.upto substLinesSpec)) substLinesUptoCard

/-- THE SECOND FORM's CARD OF 'foundrylaw20.SubstLengths'. -/
def substLengthsUptoCard : Claim7 := { stood := { row := substLengthsUptoRow, standIns := [], harness := (true, "8d76106d789bc4f0f1eb34824cded1c46b226f57b27bc2450addadca451f698c"), looks := false }, kinds := [], alts := [], laidByText := true, laidKinds := [.data], laidTests := true, laidLooks := .later }
def SubstLengthsUptoCardSaid : Prop := Claim7.holds Tryd.pinned (.plain (OpenSpec.upto substLengthsSpec)) substLengthsUptoCard

/-- THE SECOND FORM's CARD OF 'foundrylaw20.SubstSingle'. -/
def substSingleUptoCard : Claim7 := { stood := { row := substSingleUptoRow, standIns := [], harness := (true, "8d76106d789bc4f0f1eb34824cded1c46b226f57b27bc2450addadca451f698c"), looks := false }, kinds := [], alts := [], laidByText := true, laidKinds := [.data], laidTests := true, laidLooks := .later }
def SubstSingleUptoCardSaid : Prop := Claim7.holds Tryd.pinned (.plain (OpenSpec.upto substSingleSpec)) substSingleUptoCard

/-- THE SECOND FORM's CARD OF 'foundrylaw20.SubstSplit'. -/
def substSplitUptoCard : Claim7 := { stood := { row := substSplitUptoRow, standIns := [], harness := (true, "8d76106d789bc4f0f1eb34824cded1c46b226f57b27bc2450addadca451f698c"), looks := false }, kinds := [], alts := [], laidByText := true, laidKinds := [.data], laidTests := true, laidLooks := .later }
def SubstSplitUptoCardSaid : Prop := Claim7.holds Tryd.pinned (.plain (OpenSpec.upto substSplitSpec)) substSplitUptoCard

/-- THE SECOND FORM's CARD OF 'foundrylaw20.SubstNest'. -/
def substNestUptoCard : Claim7 := { stood := { row := substNestUptoRow, standIns := [], harness := (true, "8d76106d789bc4f0f1eb34824cded1c46b226f57b27bc2450addadca451f698c"), looks := false }, kinds := [], alts := [], laidByText := true, laidKinds := [.data], laidTests := true, laidLooks := .later }
def SubstNestUptoCardSaid : Prop := Claim7.holds Tryd.pinned (.plain (OpenSpec.upto substNestSpec)) substNestUptoCard
end Rows
end Go.Proofs.YtechkkefpigcaaaDoor
