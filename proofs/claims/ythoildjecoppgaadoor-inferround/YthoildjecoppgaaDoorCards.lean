/-
  DERIVED. GIVEN WITH THE SEED: THE CARDS: each row of YthoildjecoppgaaDoorRows.lean that lists a variable, with what it lists TIED to the program's text (the seventh form; the later family's looks); each row that meets fmt, with fmt's text TOLD by the authors' own Lean function (tested against real Go, not proved from fmt's source: count such statements apart). THE CARD IS WHAT COUNTS. Prove the row's statement (the work); the ties are given (YthoildjecoppgaaDoorTie.lean); close each card by the builder's one call (the guide's Derived/Test/ToyasCard.lean, 'card_holds'). Laid BY PROGRAM, IN A SANDBOX (cutbox-door.mjs). By AI agents, Wed Nov 11 2026. No macro, syntax, notation, axiom, sorry.
-/
import Derived.Test.YthoildjecoppgaaDoorRows
import GoSem.ClaimSeven
namespace Go.Proofs.YthoildjecoppgaaDoor
namespace Rows

/-- THE TIED CARD OF 'foundrylaw13.InferBetween'. -/
def inferBetweenCard : Claim7 := { stood := { row := inferBetweenRow, standIns := [], harness := (true, "17094515c5d2e8a83ae10384f983c5303f00a976367cd3363df2d2233f1b5eff"), looks := false }, kinds := [], alts := [], laidByText := true, laidKinds := [.data, .data, .data], laidTests := true, laidLooks := .later }
def InferBetweenCardSaid : Prop := Claim7.holds Tryd.pinned (.plain (OpenSpec.ofChange inferBetweenSpec)) inferBetweenCard

/-- THE TIED CARD OF 'foundrylaw13.InferRound'. -/
def inferRoundCard : Claim7 := { stood := { row := inferRoundRow, standIns := [], harness := (true, "17094515c5d2e8a83ae10384f983c5303f00a976367cd3363df2d2233f1b5eff"), looks := false }, kinds := [], alts := [], laidByText := true, laidKinds := [.data, .data, .data], laidTests := true, laidLooks := .later }
def InferRoundCardSaid : Prop := Claim7.holds Tryd.pinned (.plain (OpenSpec.ofChange inferRoundSpec)) inferRoundCard

/-- THE TIED CARD OF 'foundrylaw13.InferAlike'. -/
def inferAlikeCard : Claim7 := { stood := { row := inferAlikeRow, standIns := [], harness := (true, "17094515c5d2e8a83ae10384f983c5303f00a976367cd3363df2d2233f1b5eff"), looks := false }, kinds := [], alts := [], laidByText := true, laidKinds := [.data, .data, .data], laidTests := true, laidLooks := .later }
def InferAlikeCardSaid : Prop := Claim7.holds Tryd.pinned (.plain (OpenSpec.ofChange inferAlikeSpec)) inferAlikeCard

/-- THE TIED CARD OF 'foundrylaw13.InferAll'. -/
def inferAllCard : Claim7 := { stood := { row := inferAllRow, standIns := [], harness := (true, "17094515c5d2e8a83ae10384f983c5303f00a976367cd3363df2d2233f1b5eff"), looks := false }, kinds := [], alts := [], laidByText := true, laidKinds := [.data, .data, .data], laidTests := true, laidLooks := .later }
def InferAllCardSaid : Prop := Claim7.holds Tryd.pinned (.plain (OpenSpec.ofChange inferAllSpec)) inferAllCard

/-- THE SECOND FORM's CARD OF 'foundrylaw13.InferBetween'. -/
def inferBetweenUptoCard : Claim7 := { stood := { row := inferBetweenUptoRow, standIns := [], harness := (true, "17094515c5d2e8a83ae10384f983c5303f00a976367cd3363df2d2233f1b5eff"), looks := false }, kinds := [], alts := [], laidByText := true, laidKinds := [.data, .data, .data], laidTests := true, laidLooks := .later }
def InferBetweenUptoCardSaid : Prop := Claim7.holds Tryd.pinned (.plain (OpenSpec.upto inferBetweenSpec)) inferBetweenUptoCard

/-- THE SECOND FORM's CARD OF 'foundrylaw13.InferRound'. -/
def inferRoundUptoCard : Claim7 := { stood := { row := inferRoundUptoRow, standIns := [], harness := (true, "17094515c5d2e8a83ae10384f983c5303f00a976367cd3363df2d2233f1b5eff"), looks := false }, kinds := [], alts := [], laidByText := true, laidKinds := [.data, .data, .data], laidTests := true, laidLooks := .later }
def InferRoundUptoCardSaid : Prop := Claim7.holds Tryd.pinned (.plain (OpenSpec.upto inferRoundSpec)) inferRoundUptoCard

/-- THE SECOND FORM's CARD OF 'foundrylaw13.InferAlike'. -/
def inferAlikeUptoCard : Claim7 := { stood := { row := inferAlikeUptoRow, standIns := [], harness := (true, "17094515c5d2e8a83ae10384f983c5303f00a976367cd3363df2d2233f1b5eff"), looks := false }, kinds := [], alts := [], laidByText := true, laidKinds := [.data, .data, .data], laidTests := true, laidLooks := .later }
def InferAlikeUptoCardSaid : Prop := Claim7.holds Tryd.pinned (.plain (OpenSpec.upto inferAlikeSpec)) inferAlikeUptoCard

/-- THE SECOND FORM's CARD OF 'foundrylaw13.InferAll'. -/
def inferAllUptoCard : Claim7 := { stood := { row := inferAllUptoRow, standIns := [], harness := (true, "17094515c5d2e8a83ae10384f983c5303f00a976367cd3363df2d2233f1b5eff"), looks := false }, kinds := [], alts := [], laidByText := true, laidKinds := [.data, .data, .data], laidTests := true, laidLooks := .later }
def InferAllUptoCardSaid : Prop := Claim7.holds Tryd.pinned (.plain (OpenSpec.upto inferAllSpec)) inferAllUptoCard
end Rows
end Go.Proofs.YthoildjecoppgaaDoor
