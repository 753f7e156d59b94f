/-
  NARROWER THAN 'FOR EVERY INPUT', by the rows' own cells (each row's printed sentence says how): SubstPlaces: laid · SubstLines: laid · SubstLengths: laid · SubstSingle: laid · SubstSplit: laid · SubstNest: laid.
  DERIVED. THE GIVEN ROWS OF THIS SEAT. 6 by the template 'for every input the law returns true; each argument reads behind the call as it read before'; 0 by the template 'total and deterministic' (their statements: YtechkkefpigcaaaDoorTotals.lean).
  GIVEN WITH THE SEED: the statements are not yours to turn. If you find one false, say at which input.
  Laid BY PROGRAM, IN A SANDBOX (cutbox-rows.mjs): the forced cells as the released guide's own fill.sh prints them over the translation a5e725dd04e948be… (all of the seat's roots in one cut). By AI agents, Wed Nov 11 2026. No macro, syntax, notation, axiom, sorry.
-/
import Derived.Test.YtechkkefpigcaaaDoorChecked
import GoSem.Claim
import GoSem.ClaimJoined
import GoSem.ClaimMapViews
import Derived.JoinedTies
import Derived.KernelRfl
namespace Go.Proofs.YtechkkefpigcaaaDoor
/- THE CELL 'sum', in the pinned program and in every row, IS THE sha256 OF THE DUMP (.gsa) THAT YtechkkefpigcaaaDoorProg.lean LOADS. Nothing in Lean hashes anything: it is a label: what it is worth is what the hold of that sum in a sandbox is worth. -/
noncomputable def Tryd.pinned : Pinned := { name := "ytechkkefpigcaaadoor", sum := "a5e725dd04e948beb0e8859e770d8447cfbb81c4959c945efe3057f40d15f12b", checked := Tryd.checked }
namespace Rows
def none {H : Type} : Left H := { results := [], args := [] }

/- WHAT THE LISTED PACKAGE-LEVEL VARIABLES READ AS WHEN THE CALL BEGINS. Each datum BY PROGRAM (the guide's laid-datum.mjs) off the statement by which the dump's own 'gosem.cut.vars' lays the variable. In a bare row this is a premise. The card (YtechkkefpigcaaaDoorCards.lean) ties it to the program's text. -/
def laid_foundry_subst_spans {H : Type} : DataW H := .agg [.agg [.lit (.int .i64 0), .lit (.int .i64 0), .lit (.int .i64 0), .lit (.int .i64 0)], .agg [.lit (.int .i64 1), .lit (.int .i64 1), .lit (.int .i64 1), .lit (.int .i64 1)], .agg [.lit (.int .i64 1), .lit (.int .i64 1), .lit (.int .i64 0), .lit (.int .i64 8)], .agg [.lit (.int .i64 2), .lit (.int .i64 8), .lit (.int .i64 1), .lit (.int .i64 1)], .agg [.lit (.int .i64 1), .lit (.int .i64 8), .lit (.int .i64 0), .lit (.int .i64 0)]]

/-- 'foundrylaw20.SubstPlaces': WHATEVER THE INPUT: true; the input reads as it did. -/
def substPlacesSpec : ChangeSpec := { name := "substPlaces", fn := fun _ => fun
  | [d1, d2, d3] => { results := [.lit (.bool true)], args := [d1, d2, d3] }
  | _ => none }
def substPlacesRow : OpenClaim := { program := "ytechkkefpigcaaadoor", sum := "a5e725dd04e948beb0e8859e770d8447cfbb81c4959c945efe3057f40d15f12b", func := "foundry/foundrylaw20.SubstPlaces", spec := "substPlaces", unfollowed := true, recurses := true, named := ["foundry/subst.spans"], apart := false, laid := [("foundry/subst.spans", laid_foundry_subst_spans)] }
def SubstPlacesSaid : Prop := substPlacesRow.holds Tryd.pinned (OpenSpec.ofChange substPlacesSpec)

/-- ITS FALSE NEIGHBOUR: 'it returns false'. Refute it at one input. -/
def substPlacesWrong : ChangeSpec := { name := "substPlaces", fn := fun _ => fun
  | [d1, d2, d3] => { results := [.lit (.bool false)], args := [d1, d2, d3] }
  | _ => none }
def SubstPlacesWrongFalsely : Prop := substPlacesRow.holds Tryd.pinned (OpenSpec.ofChange substPlacesWrong)

/-- 'foundrylaw20.SubstLines': WHATEVER THE INPUT: true; the input reads as it did. -/
def substLinesSpec : ChangeSpec := { name := "substLines", fn := fun _ => fun
  | [d1, d2, d3] => { results := [.lit (.bool true)], args := [d1, d2, d3] }
  | _ => none }
def substLinesRow : OpenClaim := { program := "ytechkkefpigcaaadoor", sum := "a5e725dd04e948beb0e8859e770d8447cfbb81c4959c945efe3057f40d15f12b", func := "foundry/foundrylaw20.SubstLines", spec := "substLines", unfollowed := true, recurses := true, named := ["foundry/subst.spans"], apart := false, laid := [("foundry/subst.spans", laid_foundry_subst_spans)] }
def SubstLinesSaid : Prop := substLinesRow.holds Tryd.pinned (OpenSpec.ofChange substLinesSpec)

/-- ITS FALSE NEIGHBOUR: 'it returns false'. Refute it at one input. -/
def substLinesWrong : ChangeSpec := { name := "substLines", fn := fun _ => fun
  | [d1, d2, d3] => { results := [.lit (.bool false)], args := [d1, d2, d3] }
  | _ => none }
def SubstLinesWrongFalsely : Prop := substLinesRow.holds Tryd.pinned (OpenSpec.ofChange substLinesWrong)

/-- 'foundrylaw20.SubstLengths': WHATEVER THE INPUT: true; the input reads as it did. -/
def substLengthsSpec : ChangeSpec := { name := "substLengths", fn := fun _ => fun
  | [d1, d2, d3] => { results := [.lit (.bool true)], args := [d1, d2, d3] }
  | _ => none }
def substLengthsRow : OpenClaim := { program := "ytechkkefpigcaaadoor", sum := "a5e725dd04e948beb0e8859e770d8447cfbb81c4959c945efe3057f40d15f12b", func := "foundry/foundrylaw20.SubstLengths", spec := "substLengths", unfollowed := true, recurses := true, named := ["foundry/subst.spans"], apart := false, laid := [("foundry/subst.spans", laid_foundry_subst_spans)] }
def SubstLengthsSaid : Prop := substLengthsRow.holds Tryd.pinned (OpenSpec.ofChange substLengthsSpec)

/-- ITS FALSE NEIGHBOUR: 'it returns false'. Refute it at one input. -/
def substLengthsWrong : ChangeSpec := { name := "substLengths", fn := fun _ => fun
  | [d1, d2, d3] => { results := [.lit (.bool false)], args := [d1, d2, d3] }
  | _ => none }
def SubstLengthsWrongFalsely : Prop := substLengthsRow.holds Tryd.pinned (OpenSpec.ofChange substLengthsWrong)

/-- 'foundrylaw20.SubstSingle': WHATEVER THE INPUT: true; the input reads as it did. -/
def substSingleSpec : ChangeSpec := { name := "substSingle", fn := fun _ => fun
  | [d1, d2, d3] => { results := [.lit (.bool true)], args := [d1, d2, d3] }
  | _ => none }
def substSingleRow : OpenClaim := { program := "ytechkkefpigcaaadoor", sum := "a5e725dd04e948beb0e8859e770d8447cfbb81c4959c945efe3057f40d15f12b", func := "foundry/foundrylaw20.SubstSingle", spec := "substSingle", unfollowed := true, recurses := true, named := ["foundry/subst.spans"], apart := false, laid := [("foundry/subst.spans", laid_foundry_subst_spans)] }
def SubstSingleSaid : Prop := substSingleRow.holds Tryd.pinned (OpenSpec.ofChange substSingleSpec)

/-- ITS FALSE NEIGHBOUR: 'it returns false'. Refute it at one input. -/
def substSingleWrong : ChangeSpec := { name := "substSingle", fn := fun _ => fun
  | [d1, d2, d3] => { results := [.lit (.bool false)], args := [d1, d2, d3] }
  | _ => none }
def SubstSingleWrongFalsely : Prop := substSingleRow.holds Tryd.pinned (OpenSpec.ofChange substSingleWrong)

/-- 'foundrylaw20.SubstSplit': WHATEVER THE INPUT: true; the input reads as it did. -/
def substSplitSpec : ChangeSpec := { name := "substSplit", fn := fun _ => fun
  | [d1, d2] => { results := [.lit (.bool true)], args := [d1, d2] }
  | _ => none }
def substSplitRow : OpenClaim := { program := "ytechkkefpigcaaadoor", sum := "a5e725dd04e948beb0e8859e770d8447cfbb81c4959c945efe3057f40d15f12b", func := "foundry/foundrylaw20.SubstSplit", spec := "substSplit", unfollowed := true, recurses := true, named := ["foundry/subst.spans"], apart := false, laid := [("foundry/subst.spans", laid_foundry_subst_spans)] }
def SubstSplitSaid : Prop := substSplitRow.holds Tryd.pinned (OpenSpec.ofChange substSplitSpec)

/-- ITS FALSE NEIGHBOUR: 'it returns false'. Refute it at one input. -/
def substSplitWrong : ChangeSpec := { name := "substSplit", fn := fun _ => fun
  | [d1, d2] => { results := [.lit (.bool false)], args := [d1, d2] }
  | _ => none }
def SubstSplitWrongFalsely : Prop := substSplitRow.holds Tryd.pinned (OpenSpec.ofChange substSplitWrong)

/-- 'foundrylaw20.SubstNest': WHATEVER THE INPUT: true; the input reads as it did. -/
def substNestSpec : ChangeSpec := { name := "substNest", fn := fun _ => fun
  | [d] => { results := [.lit (.bool true)], args := [d] }
  | _ => none }
def substNestRow : OpenClaim := { program := "ytechkkefpigcaaadoor", sum := "a5e725dd04e948beb0e8859e770d8447cfbb81c4959c945efe3057f40d15f12b", func := "foundry/foundrylaw20.SubstNest", spec := "substNest", unfollowed := true, recurses := true, named := ["foundry/subst.spans"], apart := false, laid := [("foundry/subst.spans", laid_foundry_subst_spans)] }
def SubstNestSaid : Prop := substNestRow.holds Tryd.pinned (OpenSpec.ofChange substNestSpec)

/-- ITS FALSE NEIGHBOUR: 'it returns false'. Refute it at one input. -/
def substNestWrong : ChangeSpec := { name := "substNest", fn := fun _ => fun
  | [d] => { results := [.lit (.bool false)], args := [d] }
  | _ => none }
def SubstNestWrongFalsely : Prop := substNestRow.holds Tryd.pinned (OpenSpec.ofChange substNestWrong)

/- THE SECOND FORM. 'bulk': how many values and letters a reading holds, each counted each time it is reached (what is shared counts as often as it is met; a slice's spare places count too). A statement '..UptoSaid' is the law's where the arguments, and the package variables that the reading takes, are together of bulk at most 1048576: NARROWER than '..Said'. Prove '..Said' where nothing that the law and all that it calls make is longer than what came in: it says more and counts as full. Else prove '..UptoSaid'. A law counts once. -/
mutual
def uptoBulk {H : Type} : DataW H → Nat
  | .lit (.string bytes) => bytes.length + 1
  | .lit _ => 1
  | .nil => 1
  | .ptr d => uptoBulk d + 1
  | .slice elems spare => uptoBulkAll elems + uptoBulkAll spare + 1
  | .agg parts => uptoBulkAll parts + 1
  | .iface _ d => uptoBulk d + 1
  | .map entries => uptoBulkEntries entries + 1
  | .held _ => 1
def uptoBulkAll {H : Type} : List (DataW H) → Nat
  | [] => 0
  | d :: r => uptoBulk d + uptoBulkAll r
def uptoBulkEntries {H : Type} : List (Lit × DataW H) → Nat
  | [] => 0
  | x :: r => uptoBulkEntry x + uptoBulkEntries r
def uptoBulkEntry {H : Type} : Lit × DataW H → Nat
  | (.string bytes, d) => bytes.length + uptoBulk d + 1
  | (_, d) => uptoBulk d + 1
 end
def uptoSmall : (H : Type) → List (DataW H) → Bool := fun _ ds => decide (uptoBulkAll ds ≤ 1048576)
def OpenSpec.upto (s : _root_.Go.ChangeSpec) : _root_.Go.OpenSpec := { _root_.Go.OpenSpec.ofChange s with cond := some uptoSmall }

/-- 'foundrylaw20.SubstPlaces', WHERE WHAT IT READS IS OF BULK AT MOST 1048576: true; the input reads as it did. -/
def substPlacesUptoRow : OpenClaim := { program := "ytechkkefpigcaaadoor", sum := "a5e725dd04e948beb0e8859e770d8447cfbb81c4959c945efe3057f40d15f12b", func := "foundry/foundrylaw20.SubstPlaces", spec := "substPlaces", unfollowed := true, recurses := true, named := ["foundry/subst.spans"], apart := false, laid := [("foundry/subst.spans", laid_foundry_subst_spans)], narrowed := true }
def SubstPlacesUptoSaid : Prop := substPlacesUptoRow.holds Tryd.pinned (OpenSpec.upto substPlacesSpec)

/-- 'foundrylaw20.SubstLines', WHERE WHAT IT READS IS OF BULK AT MOST 1048576: true; the input reads as it did. -/
def substLinesUptoRow : OpenClaim := { program := "ytechkkefpigcaaadoor", sum := "a5e725dd04e948beb0e8859e770d8447cfbb81c4959c945efe3057f40d15f12b", func := "foundry/foundrylaw20.SubstLines", spec := "substLines", unfollowed := true, recurses := true, named := ["foundry/subst.spans"], apart := false, laid := [("foundry/subst.spans", laid_foundry_subst_spans)], narrowed := true }
def SubstLinesUptoSaid : Prop := substLinesUptoRow.holds Tryd.pinned (OpenSpec.upto substLinesSpec)

/-- 'foundrylaw20.SubstLengths', WHERE WHAT IT READS IS OF BULK AT MOST 1048576: true; the input reads as it did. -/
def substLengthsUptoRow : OpenClaim := { program := "ytechkkefpigcaaadoor", sum := "a5e725dd04e948beb0e8859e770d8447cfbb81c4959c945efe3057f40d15f12b", func := "foundry/foundrylaw20.SubstLengths", spec := "substLengths", unfollowed := true, recurses := true, named := ["foundry/subst.spans"], apart := false, laid := [("foundry/subst.spans", laid_foundry_subst_spans)], narrowed := true }
def SubstLengthsUptoSaid : Prop := substLengthsUptoRow.holds Tryd.pinned (OpenSpec.upto substLengthsSpec)

/-- 'foundrylaw20.SubstSingle', WHERE WHAT IT READS IS OF BULK AT MOST 1048576: true; the input reads as it did. -/
def substSingleUptoRow : OpenClaim := { program := "ytechkkefpigcaaadoor", sum := "a5e725dd04e948beb0e8859e770d8447cfbb81c4959c945efe3057f40d15f12b", func := "foundry/foundrylaw20.SubstSingle", spec := "substSingle", unfollowed := true, recurses := true, named := ["foundry/subst.spans"], apart := false, laid := [("foundry/subst.spans", laid_foundry_subst_spans)], narrowed := true }
def SubstSingleUptoSaid : Prop := substSingleUptoRow.holds Tryd.pinned (OpenSpec.upto substSingleSpec)

/-- 'foundrylaw20.SubstSplit', WHERE WHAT IT READS IS OF BULK AT MOST 1048576: true; the input reads as it did. -/
def substSplitUptoRow : OpenClaim := { program := "ytechkkefpigcaaadoor", sum := "a5e725dd04e948beb0e8859e770d8447cfbb81c4959c945efe3057f40d15f12b", func := "foundry/foundrylaw20.SubstSplit", spec := "substSplit", unfollowed := true, recurses := true, named := ["foundry/subst.spans"], apart := false, laid := [("foundry/subst.spans", laid_foundry_subst_spans)], narrowed := true }
def SubstSplitUptoSaid : Prop := substSplitUptoRow.holds Tryd.pinned (OpenSpec.upto substSplitSpec)

/-- 'foundrylaw20.SubstNest', WHERE WHAT IT READS IS OF BULK AT MOST 1048576: true; the input reads as it did. -/
def substNestUptoRow : OpenClaim := { program := "ytechkkefpigcaaadoor", sum := "a5e725dd04e948beb0e8859e770d8447cfbb81c4959c945efe3057f40d15f12b", func := "foundry/foundrylaw20.SubstNest", spec := "substNest", unfollowed := true, recurses := true, named := ["foundry/subst.spans"], apart := false, laid := [("foundry/subst.spans", laid_foundry_subst_spans)], narrowed := true }
def SubstNestUptoSaid : Prop := substNestUptoRow.holds Tryd.pinned (OpenSpec.upto substNestSpec)

end Rows
end Go.Proofs.YtechkkefpigcaaaDoor
