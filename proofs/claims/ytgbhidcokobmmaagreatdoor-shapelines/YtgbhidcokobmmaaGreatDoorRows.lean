/-
  NARROWER THAN 'FOR EVERY INPUT', by the rows' own cells (each row's printed sentence says how): ShapeLines: laid · ShapePlain: laid · ShapeGlyphs: laid · ShapeStill: laid · ShapeWidth: laid.
  DERIVED. THE GIVEN ROWS OF THIS SEAT. 5 by the template 'for every input the law returns true; each argument reads behind the call as it read before'; 0 by the template 'total and deterministic' (their statements: YtgbhidcokobmmaaGreatDoorTotals.lean).
  GIVEN WITH THE SEED: the statements are not yours to turn. If you find one false, say at which input.
  Laid BY PROGRAM, IN A SANDBOX (cutbox-rows.mjs): the forced cells as the released guide's own fill.sh prints them over the translation 3071cccc8b19f375… (all of the seat's roots in one cut). By AI agents, Wed Nov 11 2026. No macro, syntax, notation, axiom, sorry.
-/
import Derived.Test.YtgbhidcokobmmaaGreatDoorChecked
import GoSem.Claim
import GoSem.ClaimJoined
import GoSem.ClaimMapViews
import Derived.JoinedTies
import Derived.KernelRfl
namespace Go.Proofs.YtgbhidcokobmmaaGreatDoor
/- THE CELL 'sum', in the pinned program and in every row, IS THE sha256 OF THE DUMP (.gsa) THAT YtgbhidcokobmmaaGreatDoorProg.lean LOADS. Nothing in Lean hashes anything: it is a label: what it is worth is what the hold of that sum in a sandbox is worth. -/
noncomputable def Tryz.pinned : Pinned := { name := "ytgbhidcokobmmaagreatdoor", sum := "3071cccc8b19f3755643d0ab7e2ad90921a22b2c0171ba006dfdf143bfbf7ff3", checked := Tryz.checked }
namespace Rows
def none {H : Type} : Left H := { results := [], args := [] }

/- WHAT THE LISTED PACKAGE-LEVEL VARIABLES READ AS WHEN THE CALL BEGINS. Each datum BY PROGRAM (the guide's laid-datum.mjs) off the statement by which the dump's own 'gosem.cut.vars' lays the variable. In a bare row this is a premise. The card (YtgbhidcokobmmaaGreatDoorCards.lean) ties it to the program's text. -/
def laid_foundry_subst_spans {H : Type} : DataW H := .agg [.agg [.lit (.int .i64 0), .lit (.int .i64 0), .lit (.int .i64 0), .lit (.int .i64 0)], .agg [.lit (.int .i64 1), .lit (.int .i64 1), .lit (.int .i64 1), .lit (.int .i64 1)], .agg [.lit (.int .i64 1), .lit (.int .i64 1), .lit (.int .i64 0), .lit (.int .i64 8)], .agg [.lit (.int .i64 2), .lit (.int .i64 8), .lit (.int .i64 1), .lit (.int .i64 1)], .agg [.lit (.int .i64 1), .lit (.int .i64 8), .lit (.int .i64 0), .lit (.int .i64 0)]]

/-- 'foundrylaw23.ShapeLines': WHATEVER THE INPUT: true; the input reads as it did. -/
def shapeLinesSpec : ChangeSpec := { name := "shapeLines", fn := fun _ => fun
  | [d1, d2] => { results := [.lit (.bool true)], args := [d1, d2] }
  | _ => none }
def shapeLinesRow : OpenClaim := { program := "ytgbhidcokobmmaagreatdoor", sum := "3071cccc8b19f3755643d0ab7e2ad90921a22b2c0171ba006dfdf143bfbf7ff3", func := "foundry/foundrylaw23.ShapeLines", spec := "shapeLines", unfollowed := true, recurses := true, named := ["foundry/subst.spans"], apart := false, laid := [("foundry/subst.spans", laid_foundry_subst_spans)] }
def ShapeLinesSaid : Prop := shapeLinesRow.holds Tryz.pinned (OpenSpec.ofChange shapeLinesSpec)

/-- ITS FALSE NEIGHBOUR: 'it returns false'. Refute it at one input. -/
def shapeLinesWrong : ChangeSpec := { name := "shapeLines", fn := fun _ => fun
  | [d1, d2] => { results := [.lit (.bool false)], args := [d1, d2] }
  | _ => none }
def ShapeLinesWrongFalsely : Prop := shapeLinesRow.holds Tryz.pinned (OpenSpec.ofChange shapeLinesWrong)

/-- 'foundrylaw23.ShapePlain': WHATEVER THE INPUT: true; the input reads as it did. -/
def shapePlainSpec : ChangeSpec := { name := "shapePlain", fn := fun _ => fun
  | [d1, d2] => { results := [.lit (.bool true)], args := [d1, d2] }
  | _ => none }
def shapePlainRow : OpenClaim := { program := "ytgbhidcokobmmaagreatdoor", sum := "3071cccc8b19f3755643d0ab7e2ad90921a22b2c0171ba006dfdf143bfbf7ff3", func := "foundry/foundrylaw23.ShapePlain", spec := "shapePlain", unfollowed := true, recurses := true, named := ["foundry/subst.spans"], apart := false, laid := [("foundry/subst.spans", laid_foundry_subst_spans)] }
def ShapePlainSaid : Prop := shapePlainRow.holds Tryz.pinned (OpenSpec.ofChange shapePlainSpec)

/-- ITS FALSE NEIGHBOUR: 'it returns false'. Refute it at one input. -/
def shapePlainWrong : ChangeSpec := { name := "shapePlain", fn := fun _ => fun
  | [d1, d2] => { results := [.lit (.bool false)], args := [d1, d2] }
  | _ => none }
def ShapePlainWrongFalsely : Prop := shapePlainRow.holds Tryz.pinned (OpenSpec.ofChange shapePlainWrong)

/-- 'foundrylaw23.ShapeGlyphs': WHATEVER THE INPUT: true; the input reads as it did. -/
def shapeGlyphsSpec : ChangeSpec := { name := "shapeGlyphs", fn := fun _ => fun
  | [d1, d2] => { results := [.lit (.bool true)], args := [d1, d2] }
  | _ => none }
def shapeGlyphsRow : OpenClaim := { program := "ytgbhidcokobmmaagreatdoor", sum := "3071cccc8b19f3755643d0ab7e2ad90921a22b2c0171ba006dfdf143bfbf7ff3", func := "foundry/foundrylaw23.ShapeGlyphs", spec := "shapeGlyphs", unfollowed := true, recurses := true, named := ["foundry/subst.spans"], apart := false, laid := [("foundry/subst.spans", laid_foundry_subst_spans)] }
def ShapeGlyphsSaid : Prop := shapeGlyphsRow.holds Tryz.pinned (OpenSpec.ofChange shapeGlyphsSpec)

/-- ITS FALSE NEIGHBOUR: 'it returns false'. Refute it at one input. -/
def shapeGlyphsWrong : ChangeSpec := { name := "shapeGlyphs", fn := fun _ => fun
  | [d1, d2] => { results := [.lit (.bool false)], args := [d1, d2] }
  | _ => none }
def ShapeGlyphsWrongFalsely : Prop := shapeGlyphsRow.holds Tryz.pinned (OpenSpec.ofChange shapeGlyphsWrong)

/-- 'foundrylaw23.ShapeStill': WHATEVER THE INPUT: true; the input reads as it did. -/
def shapeStillSpec : ChangeSpec := { name := "shapeStill", fn := fun _ => fun
  | [d1, d2, d3] => { results := [.lit (.bool true)], args := [d1, d2, d3] }
  | _ => none }
def shapeStillRow : OpenClaim := { program := "ytgbhidcokobmmaagreatdoor", sum := "3071cccc8b19f3755643d0ab7e2ad90921a22b2c0171ba006dfdf143bfbf7ff3", func := "foundry/foundrylaw23.ShapeStill", spec := "shapeStill", unfollowed := true, recurses := true, named := ["foundry/subst.spans"], apart := false, laid := [("foundry/subst.spans", laid_foundry_subst_spans)] }
def ShapeStillSaid : Prop := shapeStillRow.holds Tryz.pinned (OpenSpec.ofChange shapeStillSpec)

/-- ITS FALSE NEIGHBOUR: 'it returns false'. Refute it at one input. -/
def shapeStillWrong : ChangeSpec := { name := "shapeStill", fn := fun _ => fun
  | [d1, d2, d3] => { results := [.lit (.bool false)], args := [d1, d2, d3] }
  | _ => none }
def ShapeStillWrongFalsely : Prop := shapeStillRow.holds Tryz.pinned (OpenSpec.ofChange shapeStillWrong)

/-- 'foundrylaw23.ShapeWidth': WHATEVER THE INPUT: true; the input reads as it did. -/
def shapeWidthSpec : ChangeSpec := { name := "shapeWidth", fn := fun _ => fun
  | [d1, d2] => { results := [.lit (.bool true)], args := [d1, d2] }
  | _ => none }
def shapeWidthRow : OpenClaim := { program := "ytgbhidcokobmmaagreatdoor", sum := "3071cccc8b19f3755643d0ab7e2ad90921a22b2c0171ba006dfdf143bfbf7ff3", func := "foundry/foundrylaw23.ShapeWidth", spec := "shapeWidth", unfollowed := true, recurses := true, named := ["foundry/subst.spans"], apart := false, laid := [("foundry/subst.spans", laid_foundry_subst_spans)] }
def ShapeWidthSaid : Prop := shapeWidthRow.holds Tryz.pinned (OpenSpec.ofChange shapeWidthSpec)

/-- ITS FALSE NEIGHBOUR: 'it returns false'. Refute it at one input. -/
def shapeWidthWrong : ChangeSpec := { name := "shapeWidth", fn := fun _ => fun
  | [d1, d2] => { results := [.lit (.bool false)], args := [d1, d2] }
  | _ => none }
def ShapeWidthWrongFalsely : Prop := shapeWidthRow.holds Tryz.pinned (OpenSpec.ofChange shapeWidthWrong)

/- THE SECOND FORM. 'bulk': how many values and letters a reading holds, each counted each time it is reached (what is shared counts as often as it is met; a slice's spare places count too). A statement '..UptoSaid' is the law's where the arguments, and the package variables that the reading takes, are together of bulk at most 1048576: NARROWER than '..Said'. Prove '..Said' where nothing that the law and all that it calls make is longer than what came in: it says more and counts as full. Else prove '..UptoSaid'. A law counts once. -/
mutual
def uptoBulk {H : Type} : DataW H → Nat
  | .lit (.string bytes) => bytes.length + 1
  | .lit _ => 1
  | .nil => 1
  | .ptr d => uptoBulk d + 1
  | .slice elems spare => uptoBulkAll elems + uptoBulkAll spare + 1
  | .agg parts => uptoBulkAll parts + 1
  | .iface _ d => uptoBulk d + 1
  | .map entries => uptoBulkEntries entries + 1
  | .held _ => 1
def uptoBulkAll {H : Type} : List (DataW H) → Nat
  | [] => 0
  | d :: r => uptoBulk d + uptoBulkAll r
def uptoBulkEntries {H : Type} : List (Lit × DataW H) → Nat
  | [] => 0
  | x :: r => uptoBulkEntry x + uptoBulkEntries r
def uptoBulkEntry {H : Type} : Lit × DataW H → Nat
  | (.string bytes, d) => bytes.length + uptoBulk d + 1
  | (_, d) => uptoBulk d + 1
 end
def uptoSmall : (H : Type) → List (DataW H) → Bool := fun _ ds => decide (uptoBulkAll ds ≤ 1048576)
def OpenSpec.upto (s : _root_.Go.ChangeSpec) : _root_.Go.OpenSpec := { _root_.Go.OpenSpec.ofChange s with cond := some uptoSmall }

/-- 'foundrylaw23.ShapeLines', WHERE WHAT IT READS IS OF BULK AT MOST 1048576: true; the input reads as it did. -/
def shapeLinesUptoRow : OpenClaim := { program := "ytgbhidcokobmmaagreatdoor", sum := "3071cccc8b19f3755643d0ab7e2ad90921a22b2c0171ba006dfdf143bfbf7ff3", func := "foundry/foundrylaw23.ShapeLines", spec := "shapeLines", unfollowed := true, recurses := true, named := ["foundry/subst.spans"], apart := false, laid := [("foundry/subst.spans", laid_foundry_subst_spans)], narrowed := true }
def ShapeLinesUptoSaid : Prop := shapeLinesUptoRow.holds Tryz.pinned (OpenSpec.upto shapeLinesSpec)

/-- 'foundrylaw23.ShapePlain', WHERE WHAT IT READS IS OF BULK AT MOST 1048576: true; the input reads as it did. -/
def shapePlainUptoRow : OpenClaim := { program := "ytgbhidcokobmmaagreatdoor", sum := "3071cccc8b19f3755643d0ab7e2ad90921a22b2c0171ba006dfdf143bfbf7ff3", func := "foundry/foundrylaw23.ShapePlain", spec := "shapePlain", unfollowed := true, recurses := true, named := ["foundry/subst.spans"], apart := false, laid := [("foundry/subst.spans", laid_foundry_subst_spans)], narrowed := true }
def ShapePlainUptoSaid : Prop := shapePlainUptoRow.holds Tryz.pinned (OpenSpec.upto shapePlainSpec)

/-- 'foundrylaw23.ShapeGlyphs', WHERE WHAT IT READS IS OF BULK AT MOST 1048576: true; the input reads as it did. -/
def shapeGlyphsUptoRow : OpenClaim := { program := "ytgbhidcokobmmaagreatdoor", sum := "3071cccc8b19f3755643d0ab7e2ad90921a22b2c0171ba006dfdf143bfbf7ff3", func := "foundry/foundrylaw23.ShapeGlyphs", spec := "shapeGlyphs", unfollowed := true, recurses := true, named := ["foundry/subst.spans"], apart := false, laid := [("foundry/subst.spans", laid_foundry_subst_spans)], narrowed := true }
def ShapeGlyphsUptoSaid : Prop := shapeGlyphsUptoRow.holds Tryz.pinned (OpenSpec.upto shapeGlyphsSpec)

/-- 'foundrylaw23.ShapeStill', WHERE WHAT IT READS IS OF BULK AT MOST 1048576: true; the input reads as it did. -/
def shapeStillUptoRow : OpenClaim := { program := "ytgbhidcokobmmaagreatdoor", sum := "3071cccc8b19f3755643d0ab7e2ad90921a22b2c0171ba006dfdf143bfbf7ff3", func := "foundry/foundrylaw23.ShapeStill", spec := "shapeStill", unfollowed := true, recurses := true, named := ["foundry/subst.spans"], apart := false, laid := [("foundry/subst.spans", laid_foundry_subst_spans)], narrowed := true }
def ShapeStillUptoSaid : Prop := shapeStillUptoRow.holds Tryz.pinned (OpenSpec.upto shapeStillSpec)

/-- 'foundrylaw23.ShapeWidth', WHERE WHAT IT READS IS OF BULK AT MOST 1048576: true; the input reads as it did. -/
def shapeWidthUptoRow : OpenClaim := { program := "ytgbhidcokobmmaagreatdoor", sum := "3071cccc8b19f3755643d0ab7e2ad90921a22b2c0171ba006dfdf143bfbf7ff3", func := "foundry/foundrylaw23.ShapeWidth", spec := "shapeWidth", unfollowed := true, recurses := true, named := ["foundry/subst.spans"], apart := false, laid := [("foundry/subst.spans", laid_foundry_subst_spans)], narrowed := true }
def ShapeWidthUptoSaid : Prop := shapeWidthUptoRow.holds Tryz.pinned (OpenSpec.upto shapeWidthSpec)

end Rows
end Go.Proofs.YtgbhidcokobmmaaGreatDoor
