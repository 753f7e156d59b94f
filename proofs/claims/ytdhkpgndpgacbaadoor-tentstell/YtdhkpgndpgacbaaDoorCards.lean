/-
  DERIVED. GIVEN WITH THE SEED: THE CARDS: each row of YtdhkpgndpgacbaaDoorRows.lean that lists a variable, with what it lists TIED to the program's text (the seventh form; the later family's looks); each row that meets fmt, with fmt's text TOLD by the authors' own Lean function (tested against real Go, not proved from fmt's source: count such statements apart). THE CARD IS WHAT COUNTS. Prove the row's statement (the work); the ties are given (YtdhkpgndpgacbaaDoorTie.lean); close each card by the builder's one call (the guide's Derived/Test/ToyasCard.lean, 'card_holds'). Laid BY PROGRAM, IN A SANDBOX (cutbox-door.mjs). By AI agents, Wed Nov 11 2026. No macro, syntax, notation, axiom, sorry.
-/
import Derived.Test.YtdhkpgndpgacbaaDoorRows
import GoSem.ClaimSeven
namespace Go.Proofs.YtdhkpgndpgacbaaDoor
namespace Rows

/-- THE TIED CARD OF 'foundrylaw09.TentsTell'. -/
def tentsTellCard : Claim7 := { stood := { row := tentsTellRow, standIns := [], harness := (true, "26ddee63a58f1c36c239fa1c16442f8019f133c83142790add7ebb707f36c9db"), looks := false }, kinds := [], alts := [], laidByText := true, laidKinds := [.data, .data, .data], laidTests := true, laidLooks := .later }
def TentsTellCardSaid : Prop := Claim7.holds Tryd.pinned (.plain (OpenSpec.ofChange tentsTellSpec)) tentsTellCard

/-- THE TIED CARD OF 'foundrylaw09.TentsShape'. -/
def tentsShapeCard : Claim7 := { stood := { row := tentsShapeRow, standIns := [], harness := (true, "26ddee63a58f1c36c239fa1c16442f8019f133c83142790add7ebb707f36c9db"), looks := false }, kinds := [], alts := [], laidByText := true, laidKinds := [.data, .data, .data], laidTests := true, laidLooks := .later }
def TentsShapeCardSaid : Prop := Claim7.holds Tryd.pinned (.plain (OpenSpec.ofChange tentsShapeSpec)) tentsShapeCard

/-- THE TIED CARD OF 'foundrylaw09.TentsStraight'. -/
def tentsStraightCard : Claim7 := { stood := { row := tentsStraightRow, standIns := [], harness := (true, "26ddee63a58f1c36c239fa1c16442f8019f133c83142790add7ebb707f36c9db"), looks := false }, kinds := [], alts := [], laidByText := true, laidKinds := [.data, .data, .data], laidTests := true, laidLooks := .later }
def TentsStraightCardSaid : Prop := Claim7.holds Tryd.pinned (.plain (OpenSpec.ofChange tentsStraightSpec)) tentsStraightCard

/-- THE TIED CARD OF 'foundrylaw09.TentsProduct'. -/
def tentsProductCard : Claim7 := { stood := { row := tentsProductRow, standIns := [], harness := (true, "26ddee63a58f1c36c239fa1c16442f8019f133c83142790add7ebb707f36c9db"), looks := false }, kinds := [], alts := [], laidByText := true, laidKinds := [.data, .data, .data], laidTests := true, laidLooks := .later }
def TentsProductCardSaid : Prop := Claim7.holds Tryd.pinned (.plain (OpenSpec.ofChange tentsProductSpec)) tentsProductCard

/-- THE SECOND FORM's CARD OF 'foundrylaw09.TentsTell'. -/
def tentsTellUptoCard : Claim7 := { stood := { row := tentsTellUptoRow, standIns := [], harness := (true, "26ddee63a58f1c36c239fa1c16442f8019f133c83142790add7ebb707f36c9db"), looks := false }, kinds := [], alts := [], laidByText := true, laidKinds := [.data, .data, .data], laidTests := true, laidLooks := .later }
def TentsTellUptoCardSaid : Prop := Claim7.holds Tryd.pinned (.plain (OpenSpec.upto tentsTellSpec)) tentsTellUptoCard

/-- THE SECOND FORM's CARD OF 'foundrylaw09.TentsShape'. -/
def tentsShapeUptoCard : Claim7 := { stood := { row := tentsShapeUptoRow, standIns := [], harness := (true, "26ddee63a58f1c36c239fa1c16442f8019f133c83142790add7ebb707f36c9db"), looks := false }, kinds := [], alts := [], laidByText := true, laidKinds := [.data, .data, .data], laidTests := true, laidLooks := .later }
def TentsShapeUptoCardSaid : Prop := Claim7.holds Tryd.pinned (.plain (OpenSpec.upto tentsShapeSpec)) tentsShapeUptoCard

/-- THE SECOND FORM's CARD OF 'foundrylaw09.TentsStraight'. -/
def tentsStraightUptoCard : Claim7 := { stood := { row := tentsStraightUptoRow, standIns := [], harness := (true, "26ddee63a58f1c36c239fa1c16442f8019f133c83142790add7ebb707f36c9db"), looks := false }, kinds := [], alts := [], laidByText := true, laidKinds := [.data, .data, .data], laidTests := true, laidLooks := .later }
def TentsStraightUptoCardSaid : Prop := Claim7.holds Tryd.pinned (.plain (OpenSpec.upto tentsStraightSpec)) tentsStraightUptoCard

/-- THE SECOND FORM's CARD OF 'foundrylaw09.TentsProduct'. -/
def tentsProductUptoCard : Claim7 := { stood := { row := tentsProductUptoRow, standIns := [], harness := (true, "26ddee63a58f1c36c239fa1c16442f8019f133c83142790add7ebb707f36c9db"), looks := false }, kinds := [], alts := [], laidByText := true, laidKinds := [.data, .data, .data], laidTests := true, laidLooks := .later }
def TentsProductUptoCardSaid : Prop := Claim7.holds Tryd.pinned (.plain (OpenSpec.upto tentsProductSpec)) tentsProductUptoCard
end Rows
end Go.Proofs.YtdhkpgndpgacbaaDoor
