/-
  DERIVED. GIVEN WITH THE SEED: THE CARDS: each row of YtiopjhoplokgkaaDoorRows.lean that lists a variable, with what it lists TIED to the program's text (the seventh form; the later family's looks); each row that meets fmt, with fmt's text TOLD by the authors' own Lean function (tested against real Go, not proved from fmt's source: count such statements apart). THE CARD IS WHAT COUNTS. Prove the row's statement (the work); the ties are given (YtiopjhoplokgkaaDoorTie.lean); close each card by the builder's one call (the guide's Derived/Test/ToyasCard.lean, 'card_holds'). Laid BY PROGRAM, IN A SANDBOX (cutbox-door.mjs). By AI agents, Wed Nov 11 2026. No macro, syntax, notation, axiom, sorry.
-/
import Derived.Test.YtiopjhoplokgkaaDoorRows
import GoSem.ClaimSeven
namespace Go.Proofs.YtiopjhoplokgkaaDoor
namespace Rows

/-- THE TIED CARD OF 'foundrylaw02.RatioField'. -/
def ratioFieldCard : Claim7 := { stood := { row := ratioFieldRow, standIns := [], harness := (true, "bfce7bf37e57722c20f5688ee9c47fe7525f0710a982e01476cefa88d4fd82cc"), looks := false }, kinds := [], alts := [], laidByText := true, laidKinds := [.data, .data, .data], laidTests := true, laidLooks := .later }
def RatioFieldCardSaid : Prop := Claim7.holds Tryd.pinned (.plain (OpenSpec.ofChange ratioFieldSpec)) ratioFieldCard

/-- THE TIED CARD OF 'foundrylaw02.RatioOnce'. -/
def ratioOnceCard : Claim7 := { stood := { row := ratioOnceRow, standIns := [], harness := (true, "bfce7bf37e57722c20f5688ee9c47fe7525f0710a982e01476cefa88d4fd82cc"), looks := false }, kinds := [], alts := [], laidByText := true, laidKinds := [.data, .data, .data], laidTests := true, laidLooks := .later }
def RatioOnceCardSaid : Prop := Claim7.holds Tryd.pinned (.plain (OpenSpec.ofChange ratioOnceSpec)) ratioOnceCard

/-- THE TIED CARD OF 'foundrylaw02.RatioRounds'. -/
def ratioRoundsCard : Claim7 := { stood := { row := ratioRoundsRow, standIns := [], harness := (true, "bfce7bf37e57722c20f5688ee9c47fe7525f0710a982e01476cefa88d4fd82cc"), looks := false }, kinds := [], alts := [], laidByText := true, laidKinds := [.data, .data, .data], laidTests := true, laidLooks := .later }
def RatioRoundsCardSaid : Prop := Claim7.holds Tryd.pinned (.plain (OpenSpec.ofChange ratioRoundsSpec)) ratioRoundsCard

/-- THE TIED CARD OF 'foundrylaw02.RatioSmall'. -/
def ratioSmallCard : Claim7 := { stood := { row := ratioSmallRow, standIns := [], harness := (true, "bfce7bf37e57722c20f5688ee9c47fe7525f0710a982e01476cefa88d4fd82cc"), looks := false }, kinds := [], alts := [], laidByText := true, laidKinds := [.data, .data, .data], laidTests := true, laidLooks := .later }
def RatioSmallCardSaid : Prop := Claim7.holds Tryd.pinned (.plain (OpenSpec.ofChange ratioSmallSpec)) ratioSmallCard

/-- THE SECOND FORM's CARD OF 'foundrylaw02.RatioField'. -/
def ratioFieldUptoCard : Claim7 := { stood := { row := ratioFieldUptoRow, standIns := [], harness := (true, "bfce7bf37e57722c20f5688ee9c47fe7525f0710a982e01476cefa88d4fd82cc"), looks := false }, kinds := [], alts := [], laidByText := true, laidKinds := [.data, .data, .data], laidTests := true, laidLooks := .later }
def RatioFieldUptoCardSaid : Prop := Claim7.holds Tryd.pinned (.plain (OpenSpec.upto ratioFieldSpec)) ratioFieldUptoCard

/-- THE SECOND FORM's CARD OF 'foundrylaw02.RatioOnce'. -/
def ratioOnceUptoCard : Claim7 := { stood := { row := ratioOnceUptoRow, standIns := [], harness := (true, "bfce7bf37e57722c20f5688ee9c47fe7525f0710a982e01476cefa88d4fd82cc"), looks := false }, kinds := [], alts := [], laidByText := true, laidKinds := [.data, .data, .data], laidTests := true, laidLooks := .later }
def RatioOnceUptoCardSaid : Prop := Claim7.holds Tryd.pinned (.plain (OpenSpec.upto ratioOnceSpec)) ratioOnceUptoCard

/-- THE SECOND FORM's CARD OF 'foundrylaw02.RatioRounds'. -/
def ratioRoundsUptoCard : Claim7 := { stood := { row := ratioRoundsUptoRow, standIns := [], harness := (true, "bfce7bf37e57722c20f5688ee9c47fe7525f0710a982e01476cefa88d4fd82cc"), looks := false }, kinds := [], alts := [], laidByText := true, laidKinds := [.data, .data, .data], laidTests := true, laidLooks := .later }
def RatioRoundsUptoCardSaid : Prop := Claim7.holds Tryd.pinned (.plain (OpenSpec.upto ratioRoundsSpec)) ratioRoundsUptoCard

/-- THE SECOND FORM's CARD OF 'foundrylaw02.RatioSmall'. -/
def ratioSmallUptoCard : Claim7 := { stood := { row := ratioSmallUptoRow, standIns := [], harness := (true, "bfce7bf37e57722c20f5688ee9c47fe7525f0710a982e01476cefa88d4fd82cc"), looks := false }, kinds := [], alts := [], laidByText := true, laidKinds := [.data, .data, .data], laidTests := true, laidLooks := .later }
def RatioSmallUptoCardSaid : Prop := Claim7.holds Tryd.pinned (.plain (OpenSpec.upto ratioSmallSpec)) ratioSmallUptoCard
end Rows
end Go.Proofs.YtiopjhoplokgkaaDoor
