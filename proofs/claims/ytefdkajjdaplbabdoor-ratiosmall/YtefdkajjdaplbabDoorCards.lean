/-
  DERIVED. GIVEN WITH THE SEED: THE CARDS: each row of YtefdkajjdaplbabDoorRows.lean that lists a variable, with what it lists TIED to the program's text (the seventh form; the later family's looks); each row that meets fmt, with fmt's text TOLD by the authors' own Lean function (tested against real Go, not proved from fmt's source: count such statements apart). THE CARD IS WHAT COUNTS. Prove the row's statement (the work); the ties are given (YtefdkajjdaplbabDoorTie.lean); close each card by the builder's one call (the guide's Derived/Test/ToyasCard.lean, 'card_holds'). Laid BY PROGRAM, IN A SANDBOX (cutbox-door.mjs). By AI agents, Wed Nov 11 2026. No macro, syntax, notation, axiom, sorry.
-/
import Derived.Test.YtefdkajjdaplbabDoorRows
import GoSem.ClaimSeven
namespace Go.Proofs.YtefdkajjdaplbabDoor
namespace Rows

/-- THE TIED CARD OF 'foundrylaw02.RatioSmall'. -/
def ratioSmallCard : Claim7 := { stood := { row := ratioSmallRow, standIns := [], harness := (true, "29fa762f2ebdd2fe1d6e4c359f32639dab610a1d2ef4f4aacba8c9f2397db1c2"), looks := false }, kinds := [], alts := [], laidByText := true, laidKinds := [.data, .data, .data], laidTests := true, laidLooks := .later }
def RatioSmallCardSaid : Prop := Claim7.holds Tryd.pinned (.plain (OpenSpec.ofChange ratioSmallSpec)) ratioSmallCard

/-- THE SECOND FORM's CARD OF 'foundrylaw02.RatioSmall'. -/
def ratioSmallUptoCard : Claim7 := { stood := { row := ratioSmallUptoRow, standIns := [], harness := (true, "29fa762f2ebdd2fe1d6e4c359f32639dab610a1d2ef4f4aacba8c9f2397db1c2"), looks := false }, kinds := [], alts := [], laidByText := true, laidKinds := [.data, .data, .data], laidTests := true, laidLooks := .later }
def RatioSmallUptoCardSaid : Prop := Claim7.holds Tryd.pinned (.plain (OpenSpec.upto ratioSmallSpec)) ratioSmallUptoCard
end Rows
end Go.Proofs.YtefdkajjdaplbabDoor
