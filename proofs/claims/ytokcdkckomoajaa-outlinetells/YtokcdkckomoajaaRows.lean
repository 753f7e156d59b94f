/-
  No cell of these rows narrows 'for every input' (looked for: loops, veiled, ifaces, maps, wideKeys, modest, calm, conditions, laid).
  DERIVED. THE GIVEN ROWS OF THIS SEAT. 6 by the template 'for every input the law returns true; each argument reads behind the call as it read before'; 0 by the template 'total and deterministic' (their statements: YtokcdkckomoajaaTotals.lean).
  GIVEN WITH THE SEED: the statements are not yours to turn. If you find one false, say at which input.
  Laid BY PROGRAM, IN A SANDBOX (cutbox-rows.mjs): the forced cells as the released guide's own fill.sh prints them over the translation f630327988f64c89… (all of the seat's roots in one cut). By AI agents, Wed Nov 11 2026. No macro, syntax, notation, axiom, sorry.
-/
import Derived.Test.YtokcdkckomoajaaChecked
import GoSem.Claim
import GoSem.ClaimJoined
import GoSem.ClaimMapViews
import Derived.JoinedTies
import Derived.KernelRfl
namespace Go.Proofs.Ytokcdkckomoajaa
/- THE CELL 'sum', in the pinned program and in every row, IS THE sha256 OF THE DUMP (.gsa) THAT YtokcdkckomoajaaProg.lean LOADS. Nothing in Lean hashes anything: it is a label: what it is worth is what the hold of that sum in a sandbox is worth. -/
noncomputable def Try.pinned : Pinned := { name := "ytokcdkckomoajaa", sum := "f630327988f64c89a390e796d12b5dd7fc300ad6845f20c9048270199f7bb4cf", checked := Try.checked }
namespace Rows
def none {H : Type} : Left H := { results := [], args := [] }

/-- 'foundrylaw12.OutlineBytes': WHATEVER THE INPUT: true; the input reads as it did. -/
def outlineBytesSpec : ChangeSpec := { name := "outlineBytes", fn := fun _ => fun
  | [d1, d2] => { results := [.lit (.bool true)], args := [d1, d2] }
  | _ => none }
def outlineBytesRow : OpenClaim := { program := "ytokcdkckomoajaa", sum := "f630327988f64c89a390e796d12b5dd7fc300ad6845f20c9048270199f7bb4cf", func := "foundry/foundrylaw12.OutlineBytes", spec := "outlineBytes", unfollowed := true, recurses := true, apart := false }
def OutlineBytesSaid : Prop := outlineBytesRow.holds Try.pinned (OpenSpec.ofChange outlineBytesSpec)

/-- ITS FALSE NEIGHBOUR: 'it returns false'. Refute it at one input. -/
def outlineBytesWrong : ChangeSpec := { name := "outlineBytes", fn := fun _ => fun
  | [d1, d2] => { results := [.lit (.bool false)], args := [d1, d2] }
  | _ => none }
def OutlineBytesWrongFalsely : Prop := outlineBytesRow.holds Try.pinned (OpenSpec.ofChange outlineBytesWrong)

/-- 'foundrylaw12.OutlineTells': WHATEVER THE INPUT: true; the input reads as it did. -/
def outlineTellsSpec : ChangeSpec := { name := "outlineTells", fn := fun _ => fun
  | [d] => { results := [.lit (.bool true)], args := [d] }
  | _ => none }
def outlineTellsRow : OpenClaim := { program := "ytokcdkckomoajaa", sum := "f630327988f64c89a390e796d12b5dd7fc300ad6845f20c9048270199f7bb4cf", func := "foundry/foundrylaw12.OutlineTells", spec := "outlineTells", apart := false }
def OutlineTellsSaid : Prop := outlineTellsRow.holds Try.pinned (OpenSpec.ofChange outlineTellsSpec)

/-- ITS FALSE NEIGHBOUR: 'it returns false'. Refute it at one input. -/
def outlineTellsWrong : ChangeSpec := { name := "outlineTells", fn := fun _ => fun
  | [d] => { results := [.lit (.bool false)], args := [d] }
  | _ => none }
def OutlineTellsWrongFalsely : Prop := outlineTellsRow.holds Try.pinned (OpenSpec.ofChange outlineTellsWrong)

/-- 'foundrylaw12.OutlineBack': WHATEVER THE INPUT: true; the input reads as it did. -/
def outlineBackSpec : ChangeSpec := { name := "outlineBack", fn := fun _ => fun
  | [d] => { results := [.lit (.bool true)], args := [d] }
  | _ => none }
def outlineBackRow : OpenClaim := { program := "ytokcdkckomoajaa", sum := "f630327988f64c89a390e796d12b5dd7fc300ad6845f20c9048270199f7bb4cf", func := "foundry/foundrylaw12.OutlineBack", spec := "outlineBack", unfollowed := true, recurses := true, apart := false }
def OutlineBackSaid : Prop := outlineBackRow.holds Try.pinned (OpenSpec.ofChange outlineBackSpec)

/-- ITS FALSE NEIGHBOUR: 'it returns false'. Refute it at one input. -/
def outlineBackWrong : ChangeSpec := { name := "outlineBack", fn := fun _ => fun
  | [d] => { results := [.lit (.bool false)], args := [d] }
  | _ => none }
def OutlineBackWrongFalsely : Prop := outlineBackRow.holds Try.pinned (OpenSpec.ofChange outlineBackWrong)

/-- 'foundrylaw12.OutlineOnly': WHATEVER THE INPUT: true; the input reads as it did. -/
def outlineOnlySpec : ChangeSpec := { name := "outlineOnly", fn := fun _ => fun
  | [d] => { results := [.lit (.bool true)], args := [d] }
  | _ => none }
def outlineOnlyRow : OpenClaim := { program := "ytokcdkckomoajaa", sum := "f630327988f64c89a390e796d12b5dd7fc300ad6845f20c9048270199f7bb4cf", func := "foundry/foundrylaw12.OutlineOnly", spec := "outlineOnly", unfollowed := true, recurses := true, apart := false }
def OutlineOnlySaid : Prop := outlineOnlyRow.holds Try.pinned (OpenSpec.ofChange outlineOnlySpec)

/-- ITS FALSE NEIGHBOUR: 'it returns false'. Refute it at one input. -/
def outlineOnlyWrong : ChangeSpec := { name := "outlineOnly", fn := fun _ => fun
  | [d] => { results := [.lit (.bool false)], args := [d] }
  | _ => none }
def OutlineOnlyWrongFalsely : Prop := outlineOnlyRow.holds Try.pinned (OpenSpec.ofChange outlineOnlyWrong)

/-- 'foundrylaw12.OutlineCuts': WHATEVER THE INPUT: true; the input reads as it did. -/
def outlineCutsSpec : ChangeSpec := { name := "outlineCuts", fn := fun _ => fun
  | [d1, d2, d3] => { results := [.lit (.bool true)], args := [d1, d2, d3] }
  | _ => none }
def outlineCutsRow : OpenClaim := { program := "ytokcdkckomoajaa", sum := "f630327988f64c89a390e796d12b5dd7fc300ad6845f20c9048270199f7bb4cf", func := "foundry/foundrylaw12.OutlineCuts", spec := "outlineCuts", unfollowed := true, recurses := true, apart := false }
def OutlineCutsSaid : Prop := outlineCutsRow.holds Try.pinned (OpenSpec.ofChange outlineCutsSpec)

/-- ITS FALSE NEIGHBOUR: 'it returns false'. Refute it at one input. -/
def outlineCutsWrong : ChangeSpec := { name := "outlineCuts", fn := fun _ => fun
  | [d1, d2, d3] => { results := [.lit (.bool false)], args := [d1, d2, d3] }
  | _ => none }
def OutlineCutsWrongFalsely : Prop := outlineCutsRow.holds Try.pinned (OpenSpec.ofChange outlineCutsWrong)

/-- 'foundrylaw12.OutlineMoved': WHATEVER THE INPUT: true; the input reads as it did. -/
def outlineMovedSpec : ChangeSpec := { name := "outlineMoved", fn := fun _ => fun
  | [d1, d2] => { results := [.lit (.bool true)], args := [d1, d2] }
  | _ => none }
def outlineMovedRow : OpenClaim := { program := "ytokcdkckomoajaa", sum := "f630327988f64c89a390e796d12b5dd7fc300ad6845f20c9048270199f7bb4cf", func := "foundry/foundrylaw12.OutlineMoved", spec := "outlineMoved", apart := false }
def OutlineMovedSaid : Prop := outlineMovedRow.holds Try.pinned (OpenSpec.ofChange outlineMovedSpec)

/-- ITS FALSE NEIGHBOUR: 'it returns false'. Refute it at one input. -/
def outlineMovedWrong : ChangeSpec := { name := "outlineMoved", fn := fun _ => fun
  | [d1, d2] => { results := [.lit (.bool false)], args := [d1, d2] }
  | _ => none }
def OutlineMovedWrongFalsely : Prop := outlineMovedRow.holds Try.pinned (OpenSpec.ofChange outlineMovedWrong)

/- THE SECOND FORM. 'bulk': how many values and letters a reading holds, each counted each time it is reached (what is shared counts as often as it is met; a slice's spare places count too). A statement '..UptoSaid' is the law's where the arguments, and the package variables that the reading takes, are together of bulk at most 1048576: NARROWER than '..Said'. Prove '..Said' where nothing that the law and all that it calls make is longer than what came in: it says more and counts as full. Else prove '..UptoSaid'. A law counts once. -/
mutual
def uptoBulk {H : Type} : DataW H → Nat
  | .lit (.string bytes) => bytes.length + 1
  | .lit _ => 1
  | .nil => 1
  | .ptr d => uptoBulk d + 1
  | .slice elems spare => uptoBulkAll elems + uptoBulkAll spare + 1
  | .agg parts => uptoBulkAll parts + 1
  | .iface _ d => uptoBulk d + 1
  | .map entries => uptoBulkEntries entries + 1
  | .held _ => 1
def uptoBulkAll {H : Type} : List (DataW H) → Nat
  | [] => 0
  | d :: r => uptoBulk d + uptoBulkAll r
def uptoBulkEntries {H : Type} : List (Lit × DataW H) → Nat
  | [] => 0
  | x :: r => uptoBulkEntry x + uptoBulkEntries r
def uptoBulkEntry {H : Type} : Lit × DataW H → Nat
  | (.string bytes, d) => bytes.length + uptoBulk d + 1
  | (_, d) => uptoBulk d + 1
 end
def uptoSmall : (H : Type) → List (DataW H) → Bool := fun _ ds => decide (uptoBulkAll ds ≤ 1048576)
def OpenSpec.upto (s : _root_.Go.ChangeSpec) : _root_.Go.OpenSpec := { _root_.Go.OpenSpec.ofChange s with cond := some uptoSmall }

/-- 'foundrylaw12.OutlineBytes', WHERE WHAT IT READS IS OF BULK AT MOST 1048576: true; the input reads as it did. -/
def outlineBytesUptoRow : OpenClaim := { program := "ytokcdkckomoajaa", sum := "f630327988f64c89a390e796d12b5dd7fc300ad6845f20c9048270199f7bb4cf", func := "foundry/foundrylaw12.OutlineBytes", spec := "outlineBytes", unfollowed := true, recurses := true, apart := false, narrowed := true }
def OutlineBytesUptoSaid : Prop := outlineBytesUptoRow.holds Try.pinned (OpenSpec.upto outlineBytesSpec)

/-- 'foundrylaw12.OutlineTells', WHERE WHAT IT READS IS OF BULK AT MOST 1048576: true; the input reads as it did. -/
def outlineTellsUptoRow : OpenClaim := { program := "ytokcdkckomoajaa", sum := "f630327988f64c89a390e796d12b5dd7fc300ad6845f20c9048270199f7bb4cf", func := "foundry/foundrylaw12.OutlineTells", spec := "outlineTells", apart := false, narrowed := true }
def OutlineTellsUptoSaid : Prop := outlineTellsUptoRow.holds Try.pinned (OpenSpec.upto outlineTellsSpec)

/-- 'foundrylaw12.OutlineBack', WHERE WHAT IT READS IS OF BULK AT MOST 1048576: true; the input reads as it did. -/
def outlineBackUptoRow : OpenClaim := { program := "ytokcdkckomoajaa", sum := "f630327988f64c89a390e796d12b5dd7fc300ad6845f20c9048270199f7bb4cf", func := "foundry/foundrylaw12.OutlineBack", spec := "outlineBack", unfollowed := true, recurses := true, apart := false, narrowed := true }
def OutlineBackUptoSaid : Prop := outlineBackUptoRow.holds Try.pinned (OpenSpec.upto outlineBackSpec)

/-- 'foundrylaw12.OutlineOnly', WHERE WHAT IT READS IS OF BULK AT MOST 1048576: true; the input reads as it did. -/
def outlineOnlyUptoRow : OpenClaim := { program := "ytokcdkckomoajaa", sum := "f630327988f64c89a390e796d12b5dd7fc300ad6845f20c9048270199f7bb4cf", func := "foundry/foundrylaw12.OutlineOnly", spec := "outlineOnly", unfollowed := true, recurses := true, apart := false, narrowed := true }
def OutlineOnlyUptoSaid : Prop := outlineOnlyUptoRow.holds Try.pinned (OpenSpec.upto outlineOnlySpec)

/-- 'foundrylaw12.OutlineCuts', WHERE WHAT IT READS IS OF BULK AT MOST 1048576: true; the input reads as it did. -/
def outlineCutsUptoRow : OpenClaim := { program := "ytokcdkckomoajaa", sum := "f630327988f64c89a390e796d12b5dd7fc300ad6845f20c9048270199f7bb4cf", func := "foundry/foundrylaw12.OutlineCuts", spec := "outlineCuts", unfollowed := true, recurses := true, apart := false, narrowed := true }
def OutlineCutsUptoSaid : Prop := outlineCutsUptoRow.holds Try.pinned (OpenSpec.upto outlineCutsSpec)

/-- 'foundrylaw12.OutlineMoved', WHERE WHAT IT READS IS OF BULK AT MOST 1048576: true; the input reads as it did. -/
def outlineMovedUptoRow : OpenClaim := { program := "ytokcdkckomoajaa", sum := "f630327988f64c89a390e796d12b5dd7fc300ad6845f20c9048270199f7bb4cf", func := "foundry/foundrylaw12.OutlineMoved", spec := "outlineMoved", apart := false, narrowed := true }
def OutlineMovedUptoSaid : Prop := outlineMovedUptoRow.holds Try.pinned (OpenSpec.upto outlineMovedSpec)

end Rows
end Go.Proofs.Ytokcdkckomoajaa
