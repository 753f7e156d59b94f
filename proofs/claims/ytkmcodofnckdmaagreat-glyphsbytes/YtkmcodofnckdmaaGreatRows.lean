/-
  No cell of these rows narrows 'for every input' (looked for: loops, veiled, ifaces, maps, wideKeys, modest, calm, conditions, laid).
  DERIVED. THE GIVEN ROWS OF THIS SEAT. 6 by the template 'for every input the law returns true; each argument reads behind the call as it read before'; 0 by the template 'total and deterministic' (their statements: YtkmcodofnckdmaaGreatTotals.lean).
  GIVEN WITH THE SEED: the statements are not yours to turn. If you find one false, say at which input.
  Laid BY PROGRAM, IN A SANDBOX (cutbox-rows.mjs): the forced cells as the released guide's own fill.sh prints them over the translation 25a2a976a56fc1a5… (all of the seat's roots in one cut). By AI agents, Wed Nov 11 2026. No macro, syntax, notation, axiom, sorry.
-/
import Derived.Test.YtkmcodofnckdmaaGreatChecked
import GoSem.Claim
import GoSem.ClaimJoined
import GoSem.ClaimMapViews
import Derived.JoinedTies
import Derived.KernelRfl
namespace Go.Proofs.YtkmcodofnckdmaaGreat
/- THE CELL 'sum', in the pinned program and in every row, IS THE sha256 OF THE DUMP (.gsa) THAT YtkmcodofnckdmaaGreatProg.lean LOADS. Nothing in Lean hashes anything: it is a label: what it is worth is what the hold of that sum in a sandbox is worth. -/
noncomputable def Tryz.pinned : Pinned := { name := "ytkmcodofnckdmaagreat", sum := "25a2a976a56fc1a5405c4ce21f22c51a48152c3a4b66221d9838ffdc206de123", checked := Tryz.checked }
namespace Rows
def none {H : Type} : Left H := { results := [], args := [] }

/-- 'foundrylaw15.GlyphsFlat': WHATEVER THE INPUT: true; the input reads as it did. -/
def glyphsFlatSpec : ChangeSpec := { name := "glyphsFlat", fn := fun _ => fun
  | [d1, d2, d3] => { results := [.lit (.bool true)], args := [d1, d2, d3] }
  | _ => none }
def glyphsFlatRow : OpenClaim := { program := "ytkmcodofnckdmaagreat", sum := "25a2a976a56fc1a5405c4ce21f22c51a48152c3a4b66221d9838ffdc206de123", func := "foundry/foundrylaw15.GlyphsFlat", spec := "glyphsFlat", unfollowed := true, recurses := true, apart := false }
def GlyphsFlatSaid : Prop := glyphsFlatRow.holds Tryz.pinned (OpenSpec.ofChange glyphsFlatSpec)

/-- ITS FALSE NEIGHBOUR: 'it returns false'. Refute it at one input. -/
def glyphsFlatWrong : ChangeSpec := { name := "glyphsFlat", fn := fun _ => fun
  | [d1, d2, d3] => { results := [.lit (.bool false)], args := [d1, d2, d3] }
  | _ => none }
def GlyphsFlatWrongFalsely : Prop := glyphsFlatRow.holds Tryz.pinned (OpenSpec.ofChange glyphsFlatWrong)

/-- 'foundrylaw15.GlyphsBytes': WHATEVER THE INPUT: true; the input reads as it did. -/
def glyphsBytesSpec : ChangeSpec := { name := "glyphsBytes", fn := fun _ => fun
  | [d1, d2] => { results := [.lit (.bool true)], args := [d1, d2] }
  | _ => none }
def glyphsBytesRow : OpenClaim := { program := "ytkmcodofnckdmaagreat", sum := "25a2a976a56fc1a5405c4ce21f22c51a48152c3a4b66221d9838ffdc206de123", func := "foundry/foundrylaw15.GlyphsBytes", spec := "glyphsBytes", unfollowed := true, recurses := true, apart := false }
def GlyphsBytesSaid : Prop := glyphsBytesRow.holds Tryz.pinned (OpenSpec.ofChange glyphsBytesSpec)

/-- ITS FALSE NEIGHBOUR: 'it returns false'. Refute it at one input. -/
def glyphsBytesWrong : ChangeSpec := { name := "glyphsBytes", fn := fun _ => fun
  | [d1, d2] => { results := [.lit (.bool false)], args := [d1, d2] }
  | _ => none }
def GlyphsBytesWrongFalsely : Prop := glyphsBytesRow.holds Tryz.pinned (OpenSpec.ofChange glyphsBytesWrong)

/-- 'foundrylaw15.GlyphsBack': WHATEVER THE INPUT: true; the input reads as it did. -/
def glyphsBackSpec : ChangeSpec := { name := "glyphsBack", fn := fun _ => fun
  | [d1, d2] => { results := [.lit (.bool true)], args := [d1, d2] }
  | _ => none }
def glyphsBackRow : OpenClaim := { program := "ytkmcodofnckdmaagreat", sum := "25a2a976a56fc1a5405c4ce21f22c51a48152c3a4b66221d9838ffdc206de123", func := "foundry/foundrylaw15.GlyphsBack", spec := "glyphsBack", unfollowed := true, recurses := true, apart := false }
def GlyphsBackSaid : Prop := glyphsBackRow.holds Tryz.pinned (OpenSpec.ofChange glyphsBackSpec)

/-- ITS FALSE NEIGHBOUR: 'it returns false'. Refute it at one input. -/
def glyphsBackWrong : ChangeSpec := { name := "glyphsBack", fn := fun _ => fun
  | [d1, d2] => { results := [.lit (.bool false)], args := [d1, d2] }
  | _ => none }
def GlyphsBackWrongFalsely : Prop := glyphsBackRow.holds Tryz.pinned (OpenSpec.ofChange glyphsBackWrong)

/-- 'foundrylaw15.GlyphsPart': WHATEVER THE INPUT: true; the input reads as it did. -/
def glyphsPartSpec : ChangeSpec := { name := "glyphsPart", fn := fun _ => fun
  | [d1, d2, d3] => { results := [.lit (.bool true)], args := [d1, d2, d3] }
  | _ => none }
def glyphsPartRow : OpenClaim := { program := "ytkmcodofnckdmaagreat", sum := "25a2a976a56fc1a5405c4ce21f22c51a48152c3a4b66221d9838ffdc206de123", func := "foundry/foundrylaw15.GlyphsPart", spec := "glyphsPart", unfollowed := true, recurses := true, apart := false }
def GlyphsPartSaid : Prop := glyphsPartRow.holds Tryz.pinned (OpenSpec.ofChange glyphsPartSpec)

/-- ITS FALSE NEIGHBOUR: 'it returns false'. Refute it at one input. -/
def glyphsPartWrong : ChangeSpec := { name := "glyphsPart", fn := fun _ => fun
  | [d1, d2, d3] => { results := [.lit (.bool false)], args := [d1, d2, d3] }
  | _ => none }
def GlyphsPartWrongFalsely : Prop := glyphsPartRow.holds Tryz.pinned (OpenSpec.ofChange glyphsPartWrong)

/-- 'foundrylaw15.GlyphsWhole': WHATEVER THE INPUT: true; the input reads as it did. -/
def glyphsWholeSpec : ChangeSpec := { name := "glyphsWhole", fn := fun _ => fun
  | [d1, d2, d3] => { results := [.lit (.bool true)], args := [d1, d2, d3] }
  | _ => none }
def glyphsWholeRow : OpenClaim := { program := "ytkmcodofnckdmaagreat", sum := "25a2a976a56fc1a5405c4ce21f22c51a48152c3a4b66221d9838ffdc206de123", func := "foundry/foundrylaw15.GlyphsWhole", spec := "glyphsWhole", unfollowed := true, recurses := true, apart := false }
def GlyphsWholeSaid : Prop := glyphsWholeRow.holds Tryz.pinned (OpenSpec.ofChange glyphsWholeSpec)

/-- ITS FALSE NEIGHBOUR: 'it returns false'. Refute it at one input. -/
def glyphsWholeWrong : ChangeSpec := { name := "glyphsWhole", fn := fun _ => fun
  | [d1, d2, d3] => { results := [.lit (.bool false)], args := [d1, d2, d3] }
  | _ => none }
def GlyphsWholeWrongFalsely : Prop := glyphsWholeRow.holds Tryz.pinned (OpenSpec.ofChange glyphsWholeWrong)

/-- 'foundrylaw15.GlyphsRing': WHATEVER THE INPUT: true; the input reads as it did. -/
def glyphsRingSpec : ChangeSpec := { name := "glyphsRing", fn := fun _ => fun
  | [d1, d2] => { results := [.lit (.bool true)], args := [d1, d2] }
  | _ => none }
def glyphsRingRow : OpenClaim := { program := "ytkmcodofnckdmaagreat", sum := "25a2a976a56fc1a5405c4ce21f22c51a48152c3a4b66221d9838ffdc206de123", func := "foundry/foundrylaw15.GlyphsRing", spec := "glyphsRing", unfollowed := true, recurses := true, apart := false }
def GlyphsRingSaid : Prop := glyphsRingRow.holds Tryz.pinned (OpenSpec.ofChange glyphsRingSpec)

/-- ITS FALSE NEIGHBOUR: 'it returns false'. Refute it at one input. -/
def glyphsRingWrong : ChangeSpec := { name := "glyphsRing", fn := fun _ => fun
  | [d1, d2] => { results := [.lit (.bool false)], args := [d1, d2] }
  | _ => none }
def GlyphsRingWrongFalsely : Prop := glyphsRingRow.holds Tryz.pinned (OpenSpec.ofChange glyphsRingWrong)

/- THE SECOND FORM. 'bulk': how many values and letters a reading holds, each counted each time it is reached (what is shared counts as often as it is met; a slice's spare places count too). A statement '..UptoSaid' is the law's where the arguments, and the package variables that the reading takes, are together of bulk at most 1048576: NARROWER than '..Said'. Prove '..Said' where nothing that the law and all that it calls make is longer than what came in: it says more and counts as full. Else prove '..UptoSaid'. A law counts once. -/
mutual
def uptoBulk {H : Type} : DataW H → Nat
  | .lit (.string bytes) => bytes.length + 1
  | .lit _ => 1
  | .nil => 1
  | .ptr d => uptoBulk d + 1
  | .slice elems spare => uptoBulkAll elems + uptoBulkAll spare + 1
  | .agg parts => uptoBulkAll parts + 1
  | .iface _ d => uptoBulk d + 1
  | .map entries => uptoBulkEntries entries + 1
  | .held _ => 1
def uptoBulkAll {H : Type} : List (DataW H) → Nat
  | [] => 0
  | d :: r => uptoBulk d + uptoBulkAll r
def uptoBulkEntries {H : Type} : List (Lit × DataW H) → Nat
  | [] => 0
  | x :: r => uptoBulkEntry x + uptoBulkEntries r
def uptoBulkEntry {H : Type} : Lit × DataW H → Nat
  | (.string bytes, d) => bytes.length + uptoBulk d + 1
  | (_, d) => uptoBulk d + 1
 end
def uptoSmall : (H : Type) → List (DataW H) → Bool := fun _ ds => decide (uptoBulkAll ds ≤ 1048576)
def OpenSpec.upto (s : _root_.Go.ChangeSpec) : _root_.Go.OpenSpec := { _root_.Go.OpenSpec.ofChange s with cond := some uptoSmall }

/-- 'foundrylaw15.GlyphsFlat', WHERE WHAT IT READS IS OF BULK AT MOST 1048576: true; the input reads as it did. -/
def glyphsFlatUptoRow : OpenClaim := { program := "ytkmcodofnckdmaagreat", sum := "25a2a976a56fc1a5405c4ce21f22c51a48152c3a4b66221d9838ffdc206de123", func := "foundry/foundrylaw15.GlyphsFlat", spec := "glyphsFlat", unfollowed := true, recurses := true, apart := false, narrowed := true }
def GlyphsFlatUptoSaid : Prop := glyphsFlatUptoRow.holds Tryz.pinned (OpenSpec.upto glyphsFlatSpec)

/-- 'foundrylaw15.GlyphsBytes', WHERE WHAT IT READS IS OF BULK AT MOST 1048576: true; the input reads as it did. -/
def glyphsBytesUptoRow : OpenClaim := { program := "ytkmcodofnckdmaagreat", sum := "25a2a976a56fc1a5405c4ce21f22c51a48152c3a4b66221d9838ffdc206de123", func := "foundry/foundrylaw15.GlyphsBytes", spec := "glyphsBytes", unfollowed := true, recurses := true, apart := false, narrowed := true }
def GlyphsBytesUptoSaid : Prop := glyphsBytesUptoRow.holds Tryz.pinned (OpenSpec.upto glyphsBytesSpec)

/-- 'foundrylaw15.GlyphsBack', WHERE WHAT IT READS IS OF BULK AT MOST 1048576: true; the input reads as it did. -/
def glyphsBackUptoRow : OpenClaim := { program := "ytkmcodofnckdmaagreat", sum := "25a2a976a56fc1a5405c4ce21f22c51a48152c3a4b66221d9838ffdc206de123", func := "foundry/foundrylaw15.GlyphsBack", spec := "glyphsBack", unfollowed := true, recurses := true, apart := false, narrowed := true }
def GlyphsBackUptoSaid : Prop := glyphsBackUptoRow.holds Tryz.pinned (OpenSpec.upto glyphsBackSpec)

/-- 'foundrylaw15.GlyphsPart', WHERE WHAT IT READS IS OF BULK AT MOST 1048576: true; the input reads as it did. -/
def glyphsPartUptoRow : OpenClaim := { program := "ytkmcodofnckdmaagreat", sum := "25a2a976a56fc1a5405c4ce21f22c51a48152c3a4b66221d9838ffdc206de123", func := "foundry/foundrylaw15.GlyphsPart", spec := "glyphsPart", unfollowed := true, recurses := true, apart := false, narrowed := true }
def GlyphsPartUptoSaid : Prop := glyphsPartUptoRow.holds Tryz.pinned (OpenSpec.upto glyphsPartSpec)

/-- 'foundrylaw15.GlyphsWhole', WHERE WHAT IT READS IS OF BULK AT MOST 1048576: true; the input reads as it did. -/
def glyphsWholeUptoRow : OpenClaim := { program := "ytkmcodofnckdmaagreat", sum := "25a2a976a56fc1a5405c4ce21f22c51a48152c3a4b66221d9838ffdc206de123", func := "foundry/foundrylaw15.GlyphsWhole", spec := "glyphsWhole", unfollowed := true, recurses := true, apart := false, narrowed := true }
def GlyphsWholeUptoSaid : Prop := glyphsWholeUptoRow.holds Tryz.pinned (OpenSpec.upto glyphsWholeSpec)

/-- 'foundrylaw15.GlyphsRing', WHERE WHAT IT READS IS OF BULK AT MOST 1048576: true; the input reads as it did. -/
def glyphsRingUptoRow : OpenClaim := { program := "ytkmcodofnckdmaagreat", sum := "25a2a976a56fc1a5405c4ce21f22c51a48152c3a4b66221d9838ffdc206de123", func := "foundry/foundrylaw15.GlyphsRing", spec := "glyphsRing", unfollowed := true, recurses := true, apart := false, narrowed := true }
def GlyphsRingUptoSaid : Prop := glyphsRingUptoRow.holds Tryz.pinned (OpenSpec.upto glyphsRingSpec)

end Rows
end Go.Proofs.YtkmcodofnckdmaaGreat
