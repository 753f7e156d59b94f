/-
  No cell of these rows narrows 'for every input' (looked for: loops, veiled, ifaces, maps, wideKeys, modest, calm, conditions, laid).
  DERIVED. THE GIVEN ROWS OF THIS SEAT. 3 by the template 'for every input the law returns true; each argument reads behind the call as it read before'; 0 by the template 'total and deterministic' (their statements: YtkbbdkecillnpaaGreatTotals.lean).
  GIVEN WITH THE SEED: the statements are not yours to turn. If you find one false, say at which input.
  Laid BY PROGRAM, IN A SANDBOX (cutbox-rows.mjs): the forced cells as the released guide's own fill.sh prints them over the translation c3d69f45e44023b4… (all of the seat's roots in one cut). By AI agents, Wed Nov 11 2026. No macro, syntax, notation, axiom, sorry.
-/
import Derived.Test.YtkbbdkecillnpaaGreatChecked
import GoSem.Claim
import GoSem.ClaimJoined
import GoSem.ClaimMapViews
import Derived.JoinedTies
import Derived.KernelRfl
namespace Go.Proofs.YtkbbdkecillnpaaGreat
/- THE CELL 'sum', in the pinned program and in every row, IS THE sha256 OF THE DUMP (.gsa) THAT YtkbbdkecillnpaaGreatProg.lean LOADS. Nothing in Lean hashes anything: it is a label: what it is worth is what the hold of that sum in a sandbox is worth. -/
noncomputable def Tryz.pinned : Pinned := { name := "ytkbbdkecillnpaagreat", sum := "c3d69f45e44023b4060779c070ca737c8fa9bd60f0b834706c2ecb4eb64caaaa", checked := Tryz.checked }
namespace Rows
def none {H : Type} : Left H := { results := [], args := [] }

/-- 'foundrylaw18.StrokesDraw': WHATEVER THE INPUT: true; the input reads as it did. -/
def strokesDrawSpec : ChangeSpec := { name := "strokesDraw", fn := fun _ => fun
  | [d1, d2, d3] => { results := [.lit (.bool true)], args := [d1, d2, d3] }
  | _ => none }
def strokesDrawRow : OpenClaim := { program := "ytkbbdkecillnpaagreat", sum := "c3d69f45e44023b4060779c070ca737c8fa9bd60f0b834706c2ecb4eb64caaaa", func := "foundry/foundrylaw18.StrokesDraw", spec := "strokesDraw", recurses := true, apart := false }
def StrokesDrawSaid : Prop := strokesDrawRow.holds Tryz.pinned (OpenSpec.ofChange strokesDrawSpec)

/-- ITS FALSE NEIGHBOUR: 'it returns false'. Refute it at one input. -/
def strokesDrawWrong : ChangeSpec := { name := "strokesDraw", fn := fun _ => fun
  | [d1, d2, d3] => { results := [.lit (.bool false)], args := [d1, d2, d3] }
  | _ => none }
def StrokesDrawWrongFalsely : Prop := strokesDrawRow.holds Tryz.pinned (OpenSpec.ofChange strokesDrawWrong)

/-- 'foundrylaw18.StrokesBakes': WHATEVER THE INPUT: true; the input reads as it did. -/
def strokesBakesSpec : ChangeSpec := { name := "strokesBakes", fn := fun _ => fun
  | [d1, d2] => { results := [.lit (.bool true)], args := [d1, d2] }
  | _ => none }
def strokesBakesRow : OpenClaim := { program := "ytkbbdkecillnpaagreat", sum := "c3d69f45e44023b4060779c070ca737c8fa9bd60f0b834706c2ecb4eb64caaaa", func := "foundry/foundrylaw18.StrokesBakes", spec := "strokesBakes", recurses := true, apart := false }
def StrokesBakesSaid : Prop := strokesBakesRow.holds Tryz.pinned (OpenSpec.ofChange strokesBakesSpec)

/-- ITS FALSE NEIGHBOUR: 'it returns false'. Refute it at one input. -/
def strokesBakesWrong : ChangeSpec := { name := "strokesBakes", fn := fun _ => fun
  | [d1, d2] => { results := [.lit (.bool false)], args := [d1, d2] }
  | _ => none }
def StrokesBakesWrongFalsely : Prop := strokesBakesRow.holds Tryz.pinned (OpenSpec.ofChange strokesBakesWrong)

/-- 'foundrylaw18.StrokesBytes': WHATEVER THE INPUT: true; the input reads as it did. -/
def strokesBytesSpec : ChangeSpec := { name := "strokesBytes", fn := fun _ => fun
  | [d1, d2] => { results := [.lit (.bool true)], args := [d1, d2] }
  | _ => none }
def strokesBytesRow : OpenClaim := { program := "ytkbbdkecillnpaagreat", sum := "c3d69f45e44023b4060779c070ca737c8fa9bd60f0b834706c2ecb4eb64caaaa", func := "foundry/foundrylaw18.StrokesBytes", spec := "strokesBytes", recurses := true, apart := false }
def StrokesBytesSaid : Prop := strokesBytesRow.holds Tryz.pinned (OpenSpec.ofChange strokesBytesSpec)

/-- ITS FALSE NEIGHBOUR: 'it returns false'. Refute it at one input. -/
def strokesBytesWrong : ChangeSpec := { name := "strokesBytes", fn := fun _ => fun
  | [d1, d2] => { results := [.lit (.bool false)], args := [d1, d2] }
  | _ => none }
def StrokesBytesWrongFalsely : Prop := strokesBytesRow.holds Tryz.pinned (OpenSpec.ofChange strokesBytesWrong)

/- THE SECOND FORM. 'bulk': how many values and letters a reading holds, each counted each time it is reached (what is shared counts as often as it is met; a slice's spare places count too). A statement '..UptoSaid' is the law's where the arguments, and the package variables that the reading takes, are together of bulk at most 1048576: NARROWER than '..Said'. Prove '..Said' where nothing that the law and all that it calls make is longer than what came in: it says more and counts as full. Else prove '..UptoSaid'. A law counts once. -/
mutual
def uptoBulk {H : Type} : DataW H → Nat
  | .lit (.string bytes) => bytes.length + 1
  | .lit _ => 1
  | .nil => 1
  | .ptr d => uptoBulk d + 1
  | .slice elems spare => uptoBulkAll elems + uptoBulkAll spare + 1
  | .agg parts => uptoBulkAll parts + 1
  | .iface _ d => uptoBulk d + 1
  | .map entries => uptoBulkEntries entries + 1
  | .held _ => 1
def uptoBulkAll {H : Type} : List (DataW H) → Nat
  | [] => 0
  | d :: r => uptoBulk d + uptoBulkAll r
def uptoBulkEntries {H : Type} : List (Lit × DataW H) → Nat
  | [] => 0
  | x :: r => uptoBulkEntry x + uptoBulkEntries r
def uptoBulkEntry {H : Type} : Lit × DataW H → Nat
  | (.string bytes, d) => bytes.length + uptoBulk d + 1
  | (_, d) => uptoBulk d + 1
 end
def uptoSmall : (H : Type) → List (DataW H) → Bool := fun _ ds => decide (uptoBulkAll ds ≤ 1048576)
def OpenSpec.upto (s : _root_.Go.ChangeSpec) : _root_.Go.OpenSpec := { _root_.Go.OpenSpec.ofChange s with cond := some uptoSmall }

/-- 'foundrylaw18.StrokesDraw', WHERE WHAT IT READS IS OF BULK AT MOST 1048576: true; the input reads as it did. -/
def strokesDrawUptoRow : OpenClaim := { program := "ytkbbdkecillnpaagreat", sum := "c3d69f45e44023b4060779c070ca737c8fa9bd60f0b834706c2ecb4eb64caaaa", func := "foundry/foundrylaw18.StrokesDraw", spec := "strokesDraw", recurses := true, apart := false, narrowed := true }
def StrokesDrawUptoSaid : Prop := strokesDrawUptoRow.holds Tryz.pinned (OpenSpec.upto strokesDrawSpec)

/-- 'foundrylaw18.StrokesBakes', WHERE WHAT IT READS IS OF BULK AT MOST 1048576: true; the input reads as it did. -/
def strokesBakesUptoRow : OpenClaim := { program := "ytkbbdkecillnpaagreat", sum := "c3d69f45e44023b4060779c070ca737c8fa9bd60f0b834706c2ecb4eb64caaaa", func := "foundry/foundrylaw18.StrokesBakes", spec := "strokesBakes", recurses := true, apart := false, narrowed := true }
def StrokesBakesUptoSaid : Prop := strokesBakesUptoRow.holds Tryz.pinned (OpenSpec.upto strokesBakesSpec)

/-- 'foundrylaw18.StrokesBytes', WHERE WHAT IT READS IS OF BULK AT MOST 1048576: true; the input reads as it did. -/
def strokesBytesUptoRow : OpenClaim := { program := "ytkbbdkecillnpaagreat", sum := "c3d69f45e44023b4060779c070ca737c8fa9bd60f0b834706c2ecb4eb64caaaa", func := "foundry/foundrylaw18.StrokesBytes", spec := "strokesBytes", recurses := true, apart := false, narrowed := true }
def StrokesBytesUptoSaid : Prop := strokesBytesUptoRow.holds Tryz.pinned (OpenSpec.upto strokesBytesSpec)

end Rows
end Go.Proofs.YtkbbdkecillnpaaGreat
