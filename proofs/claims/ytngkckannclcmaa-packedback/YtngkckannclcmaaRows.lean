/-
  No cell of these rows narrows 'for every input' (looked for: loops, veiled, ifaces, maps, wideKeys, modest, calm, conditions, laid).
  DERIVED. THE GIVEN ROWS OF THIS SEAT. 5 by the template 'for every input the law returns true; each argument reads behind the call as it read before'; 0 by the template 'total and deterministic' (their statements: YtngkckannclcmaaTotals.lean).
  GIVEN WITH THE SEED: the statements are not yours to turn. If you find one false, say at which input.
  Laid BY PROGRAM, IN A SANDBOX (cutbox-rows.mjs): the forced cells as the released guide's own fill.sh prints them over the translation 4c64e41e977a1441… (all of the seat's roots in one cut). By AI agents, Wed Nov 11 2026. No macro, syntax, notation, axiom, sorry.
-/
import Derived.Test.YtngkckannclcmaaChecked
import GoSem.Claim
import GoSem.ClaimJoined
import GoSem.ClaimMapViews
import Derived.JoinedTies
import Derived.KernelRfl
namespace Go.Proofs.Ytngkckannclcmaa
/- THE CELL 'sum', in the pinned program and in every row, IS THE sha256 OF THE DUMP (.gsa) THAT YtngkckannclcmaaProg.lean LOADS. Nothing in Lean hashes anything: it is a label: what it is worth is what the hold of that sum in a sandbox is worth. -/
noncomputable def Try.pinned : Pinned := { name := "ytngkckannclcmaa", sum := "4c64e41e977a1441b23882987a1372c45121c8c3c386e1b1e6870bde3372071e", checked := Try.checked }
namespace Rows
def none {H : Type} : Left H := { results := [], args := [] }

/-- 'foundrylaw11.PackedPoints': WHATEVER THE INPUT: true; the input reads as it did. -/
def packedPointsSpec : ChangeSpec := { name := "packedPoints", fn := fun _ => fun
  | [d1, d2] => { results := [.lit (.bool true)], args := [d1, d2] }
  | _ => none }
def packedPointsRow : OpenClaim := { program := "ytngkckannclcmaa", sum := "4c64e41e977a1441b23882987a1372c45121c8c3c386e1b1e6870bde3372071e", func := "foundry/foundrylaw11.PackedPoints", spec := "packedPoints", unfollowed := true, recurses := true, apart := false }
def PackedPointsSaid : Prop := packedPointsRow.holds Try.pinned (OpenSpec.ofChange packedPointsSpec)

/-- ITS FALSE NEIGHBOUR: 'it returns false'. Refute it at one input. -/
def packedPointsWrong : ChangeSpec := { name := "packedPoints", fn := fun _ => fun
  | [d1, d2] => { results := [.lit (.bool false)], args := [d1, d2] }
  | _ => none }
def PackedPointsWrongFalsely : Prop := packedPointsRow.holds Try.pinned (OpenSpec.ofChange packedPointsWrong)

/-- 'foundrylaw11.PackedChanges': WHATEVER THE INPUT: true; the input reads as it did. -/
def packedChangesSpec : ChangeSpec := { name := "packedChanges", fn := fun _ => fun
  | [d1, d2, d3] => { results := [.lit (.bool true)], args := [d1, d2, d3] }
  | _ => none }
def packedChangesRow : OpenClaim := { program := "ytngkckannclcmaa", sum := "4c64e41e977a1441b23882987a1372c45121c8c3c386e1b1e6870bde3372071e", func := "foundry/foundrylaw11.PackedChanges", spec := "packedChanges", unfollowed := true, recurses := true, apart := false }
def PackedChangesSaid : Prop := packedChangesRow.holds Try.pinned (OpenSpec.ofChange packedChangesSpec)

/-- ITS FALSE NEIGHBOUR: 'it returns false'. Refute it at one input. -/
def packedChangesWrong : ChangeSpec := { name := "packedChanges", fn := fun _ => fun
  | [d1, d2, d3] => { results := [.lit (.bool false)], args := [d1, d2, d3] }
  | _ => none }
def PackedChangesWrongFalsely : Prop := packedChangesRow.holds Try.pinned (OpenSpec.ofChange packedChangesWrong)

/-- 'foundrylaw11.PackedBack': WHATEVER THE INPUT: true; the input reads as it did. -/
def packedBackSpec : ChangeSpec := { name := "packedBack", fn := fun _ => fun
  | [d1, d2, d3] => { results := [.lit (.bool true)], args := [d1, d2, d3] }
  | _ => none }
def packedBackRow : OpenClaim := { program := "ytngkckannclcmaa", sum := "4c64e41e977a1441b23882987a1372c45121c8c3c386e1b1e6870bde3372071e", func := "foundry/foundrylaw11.PackedBack", spec := "packedBack", unfollowed := true, recurses := true, apart := false }
def PackedBackSaid : Prop := packedBackRow.holds Try.pinned (OpenSpec.ofChange packedBackSpec)

/-- ITS FALSE NEIGHBOUR: 'it returns false'. Refute it at one input. -/
def packedBackWrong : ChangeSpec := { name := "packedBack", fn := fun _ => fun
  | [d1, d2, d3] => { results := [.lit (.bool false)], args := [d1, d2, d3] }
  | _ => none }
def PackedBackWrongFalsely : Prop := packedBackRow.holds Try.pinned (OpenSpec.ofChange packedBackWrong)

/-- 'foundrylaw11.PackedCuts': WHATEVER THE INPUT: true; the input reads as it did. -/
def packedCutsSpec : ChangeSpec := { name := "packedCuts", fn := fun _ => fun
  | [d1, d2, d3] => { results := [.lit (.bool true)], args := [d1, d2, d3] }
  | _ => none }
def packedCutsRow : OpenClaim := { program := "ytngkckannclcmaa", sum := "4c64e41e977a1441b23882987a1372c45121c8c3c386e1b1e6870bde3372071e", func := "foundry/foundrylaw11.PackedCuts", spec := "packedCuts", unfollowed := true, recurses := true, apart := false }
def PackedCutsSaid : Prop := packedCutsRow.holds Try.pinned (OpenSpec.ofChange packedCutsSpec)

/-- ITS FALSE NEIGHBOUR: 'it returns false'. Refute it at one input. -/
def packedCutsWrong : ChangeSpec := { name := "packedCuts", fn := fun _ => fun
  | [d1, d2, d3] => { results := [.lit (.bool false)], args := [d1, d2, d3] }
  | _ => none }
def PackedCutsWrongFalsely : Prop := packedCutsRow.holds Try.pinned (OpenSpec.ofChange packedCutsWrong)

/-- 'foundrylaw11.PackedShort': WHATEVER THE INPUT: true; the input reads as it did. -/
def packedShortSpec : ChangeSpec := { name := "packedShort", fn := fun _ => fun
  | [d1, d2] => { results := [.lit (.bool true)], args := [d1, d2] }
  | _ => none }
def packedShortRow : OpenClaim := { program := "ytngkckannclcmaa", sum := "4c64e41e977a1441b23882987a1372c45121c8c3c386e1b1e6870bde3372071e", func := "foundry/foundrylaw11.PackedShort", spec := "packedShort", unfollowed := true, recurses := true, apart := false }
def PackedShortSaid : Prop := packedShortRow.holds Try.pinned (OpenSpec.ofChange packedShortSpec)

/-- ITS FALSE NEIGHBOUR: 'it returns false'. Refute it at one input. -/
def packedShortWrong : ChangeSpec := { name := "packedShort", fn := fun _ => fun
  | [d1, d2] => { results := [.lit (.bool false)], args := [d1, d2] }
  | _ => none }
def PackedShortWrongFalsely : Prop := packedShortRow.holds Try.pinned (OpenSpec.ofChange packedShortWrong)

/- THE SECOND FORM. 'bulk': how many values and letters a reading holds, each counted each time it is reached (what is shared counts as often as it is met; a slice's spare places count too). A statement '..UptoSaid' is the law's where the arguments, and the package variables that the reading takes, are together of bulk at most 1048576: NARROWER than '..Said'. Prove '..Said' where nothing that the law and all that it calls make is longer than what came in: it says more and counts as full. Else prove '..UptoSaid'. A law counts once. -/
mutual
def uptoBulk {H : Type} : DataW H → Nat
  | .lit (.string bytes) => bytes.length + 1
  | .lit _ => 1
  | .nil => 1
  | .ptr d => uptoBulk d + 1
  | .slice elems spare => uptoBulkAll elems + uptoBulkAll spare + 1
  | .agg parts => uptoBulkAll parts + 1
  | .iface _ d => uptoBulk d + 1
  | .map entries => uptoBulkEntries entries + 1
  | .held _ => 1
def uptoBulkAll {H : Type} : List (DataW H) → Nat
  | [] => 0
  | d :: r => uptoBulk d + uptoBulkAll r
def uptoBulkEntries {H : Type} : List (Lit × DataW H) → Nat
  | [] => 0
  | x :: r => uptoBulkEntry x + uptoBulkEntries r
def uptoBulkEntry {H : Type} : Lit × DataW H → Nat
  | (.string bytes, d) => bytes.length + uptoBulk d + 1
  | (_, d) => uptoBulk d + 1
 end
def uptoSmall : (H : Type) → List (DataW H) → Bool := fun _ ds => decide (uptoBulkAll ds ≤ 1048576)
def OpenSpec.upto (s : _root_.Go.ChangeSpec) : _root_.Go.OpenSpec := { _root_.Go.OpenSpec.ofChange s with cond := some uptoSmall }

/-- 'foundrylaw11.PackedPoints', WHERE WHAT IT READS IS OF BULK AT MOST 1048576: true; the input reads as it did. -/
def packedPointsUptoRow : OpenClaim := { program := "ytngkckannclcmaa", sum := "4c64e41e977a1441b23882987a1372c45121c8c3c386e1b1e6870bde3372071e", func := "foundry/foundrylaw11.PackedPoints", spec := "packedPoints", unfollowed := true, recurses := true, apart := false, narrowed := true }
def PackedPointsUptoSaid : Prop := packedPointsUptoRow.holds Try.pinned (OpenSpec.upto packedPointsSpec)

/-- 'foundrylaw11.PackedChanges', WHERE WHAT IT READS IS OF BULK AT MOST 1048576: true; the input reads as it did. -/
def packedChangesUptoRow : OpenClaim := { program := "ytngkckannclcmaa", sum := "4c64e41e977a1441b23882987a1372c45121c8c3c386e1b1e6870bde3372071e", func := "foundry/foundrylaw11.PackedChanges", spec := "packedChanges", unfollowed := true, recurses := true, apart := false, narrowed := true }
def PackedChangesUptoSaid : Prop := packedChangesUptoRow.holds Try.pinned (OpenSpec.upto packedChangesSpec)

/-- 'foundrylaw11.PackedBack', WHERE WHAT IT READS IS OF BULK AT MOST 1048576: true; the input reads as it did. -/
def packedBackUptoRow : OpenClaim := { program := "ytngkckannclcmaa", sum := "4c64e41e977a1441b23882987a1372c45121c8c3c386e1b1e6870bde3372071e", func := "foundry/foundrylaw11.PackedBack", spec := "packedBack", unfollowed := true, recurses := true, apart := false, narrowed := true }
def PackedBackUptoSaid : Prop := packedBackUptoRow.holds Try.pinned (OpenSpec.upto packedBackSpec)

/-- 'foundrylaw11.PackedCuts', WHERE WHAT IT READS IS OF BULK AT MOST 1048576: true; the input reads as it did. -/
def packedCutsUptoRow : OpenClaim := { program := "ytngkckannclcmaa", sum := "4c64e41e977a1441b23882987a1372c45121c8c3c386e1b1e6870bde3372071e", func := "foundry/foundrylaw11.PackedCuts", spec := "packedCuts", unfollowed := true, recurses := true, apart := false, narrowed := true }
def PackedCutsUptoSaid : Prop := packedCutsUptoRow.holds Try.pinned (OpenSpec.upto packedCutsSpec)

/-- 'foundrylaw11.PackedShort', WHERE WHAT IT READS IS OF BULK AT MOST 1048576: true; the input reads as it did. -/
def packedShortUptoRow : OpenClaim := { program := "ytngkckannclcmaa", sum := "4c64e41e977a1441b23882987a1372c45121c8c3c386e1b1e6870bde3372071e", func := "foundry/foundrylaw11.PackedShort", spec := "packedShort", unfollowed := true, recurses := true, apart := false, narrowed := true }
def PackedShortUptoSaid : Prop := packedShortUptoRow.holds Try.pinned (OpenSpec.upto packedShortSpec)

end Rows
end Go.Proofs.Ytngkckannclcmaa
