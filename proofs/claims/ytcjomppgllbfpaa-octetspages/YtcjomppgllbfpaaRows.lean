/-
  No cell of these rows narrows 'for every input' (looked for: loops, veiled, ifaces, maps, wideKeys, modest, calm, conditions, laid).
  DERIVED. THE GIVEN ROWS OF THIS SEAT. 5 by the template 'for every input the law returns true; each argument reads behind the call as it read before'; 0 by the template 'total and deterministic' (their statements: YtcjomppgllbfpaaTotals.lean).
  GIVEN WITH THE SEED: the statements are not yours to turn. If you find one false, say at which input.
  Laid BY PROGRAM, IN A SANDBOX (cutbox-rows.mjs): the forced cells as the released guide's own fill.sh prints them over the translation f2bea2dba023d222… (all of the seat's roots in one cut). By AI agents, Wed Nov 11 2026. No macro, syntax, notation, axiom, sorry.
-/
import Derived.Test.YtcjomppgllbfpaaChecked
import GoSem.Claim
import GoSem.ClaimJoined
import GoSem.ClaimMapViews
import Derived.JoinedTies
import Derived.KernelRfl
namespace Go.Proofs.Ytcjomppgllbfpaa
/- THE CELL 'sum', in the pinned program and in every row, IS THE sha256 OF THE DUMP (.gsa) THAT YtcjomppgllbfpaaProg.lean LOADS. Nothing in Lean hashes anything: it is a label: what it is worth is what the hold of that sum in a sandbox is worth. -/
noncomputable def Try.pinned : Pinned := { name := "ytcjomppgllbfpaa", sum := "f2bea2dba023d222ceb79a79c843c05f35c34af6b46c8438575c2efa3f6df92c", checked := Try.checked }
namespace Rows
def none {H : Type} : Left H := { results := [], args := [] }

/-- 'foundrylaw04.OctetsReads': WHATEVER THE INPUT: true; the input reads as it did. -/
def octetsReadsSpec : ChangeSpec := { name := "octetsReads", fn := fun _ => fun
  | [d1, d2, d3] => { results := [.lit (.bool true)], args := [d1, d2, d3] }
  | _ => none }
def octetsReadsRow : OpenClaim := { program := "ytcjomppgllbfpaa", sum := "f2bea2dba023d222ceb79a79c843c05f35c34af6b46c8438575c2efa3f6df92c", func := "foundry/foundrylaw04.OctetsReads", spec := "octetsReads", apart := false }
def OctetsReadsSaid : Prop := octetsReadsRow.holds Try.pinned (OpenSpec.ofChange octetsReadsSpec)

/-- ITS FALSE NEIGHBOUR: 'it returns false'. Refute it at one input. -/
def octetsReadsWrong : ChangeSpec := { name := "octetsReads", fn := fun _ => fun
  | [d1, d2, d3] => { results := [.lit (.bool false)], args := [d1, d2, d3] }
  | _ => none }
def OctetsReadsWrongFalsely : Prop := octetsReadsRow.holds Try.pinned (OpenSpec.ofChange octetsReadsWrong)

/-- 'foundrylaw04.OctetsPages': WHATEVER THE INPUT: true; the input reads as it did. -/
def octetsPagesSpec : ChangeSpec := { name := "octetsPages", fn := fun _ => fun
  | [d1, d2] => { results := [.lit (.bool true)], args := [d1, d2] }
  | _ => none }
def octetsPagesRow : OpenClaim := { program := "ytcjomppgllbfpaa", sum := "f2bea2dba023d222ceb79a79c843c05f35c34af6b46c8438575c2efa3f6df92c", func := "foundry/foundrylaw04.OctetsPages", spec := "octetsPages", apart := false }
def OctetsPagesSaid : Prop := octetsPagesRow.holds Try.pinned (OpenSpec.ofChange octetsPagesSpec)

/-- ITS FALSE NEIGHBOUR: 'it returns false'. Refute it at one input. -/
def octetsPagesWrong : ChangeSpec := { name := "octetsPages", fn := fun _ => fun
  | [d1, d2] => { results := [.lit (.bool false)], args := [d1, d2] }
  | _ => none }
def OctetsPagesWrongFalsely : Prop := octetsPagesRow.holds Try.pinned (OpenSpec.ofChange octetsPagesWrong)

/-- 'foundrylaw04.OctetsBack': WHATEVER THE INPUT: true; the input reads as it did. -/
def octetsBackSpec : ChangeSpec := { name := "octetsBack", fn := fun _ => fun
  | [d1, d2] => { results := [.lit (.bool true)], args := [d1, d2] }
  | _ => none }
def octetsBackRow : OpenClaim := { program := "ytcjomppgllbfpaa", sum := "f2bea2dba023d222ceb79a79c843c05f35c34af6b46c8438575c2efa3f6df92c", func := "foundry/foundrylaw04.OctetsBack", spec := "octetsBack", apart := false }
def OctetsBackSaid : Prop := octetsBackRow.holds Try.pinned (OpenSpec.ofChange octetsBackSpec)

/-- ITS FALSE NEIGHBOUR: 'it returns false'. Refute it at one input. -/
def octetsBackWrong : ChangeSpec := { name := "octetsBack", fn := fun _ => fun
  | [d1, d2] => { results := [.lit (.bool false)], args := [d1, d2] }
  | _ => none }
def OctetsBackWrongFalsely : Prop := octetsBackRow.holds Try.pinned (OpenSpec.ofChange octetsBackWrong)

/-- 'foundrylaw04.OctetsLater': WHATEVER THE INPUT: true; the input reads as it did. -/
def octetsLaterSpec : ChangeSpec := { name := "octetsLater", fn := fun _ => fun
  | [d] => { results := [.lit (.bool true)], args := [d] }
  | _ => none }
def octetsLaterRow : OpenClaim := { program := "ytcjomppgllbfpaa", sum := "f2bea2dba023d222ceb79a79c843c05f35c34af6b46c8438575c2efa3f6df92c", func := "foundry/foundrylaw04.OctetsLater", spec := "octetsLater", apart := false }
def OctetsLaterSaid : Prop := octetsLaterRow.holds Try.pinned (OpenSpec.ofChange octetsLaterSpec)

/-- ITS FALSE NEIGHBOUR: 'it returns false'. Refute it at one input. -/
def octetsLaterWrong : ChangeSpec := { name := "octetsLater", fn := fun _ => fun
  | [d] => { results := [.lit (.bool false)], args := [d] }
  | _ => none }
def OctetsLaterWrongFalsely : Prop := octetsLaterRow.holds Try.pinned (OpenSpec.ofChange octetsLaterWrong)

/-- 'foundrylaw04.OctetsFails': WHATEVER THE INPUT: true; the input reads as it did. -/
def octetsFailsSpec : ChangeSpec := { name := "octetsFails", fn := fun _ => fun
  | [d1, d2] => { results := [.lit (.bool true)], args := [d1, d2] }
  | _ => none }
def octetsFailsRow : OpenClaim := { program := "ytcjomppgllbfpaa", sum := "f2bea2dba023d222ceb79a79c843c05f35c34af6b46c8438575c2efa3f6df92c", func := "foundry/foundrylaw04.OctetsFails", spec := "octetsFails", apart := false }
def OctetsFailsSaid : Prop := octetsFailsRow.holds Try.pinned (OpenSpec.ofChange octetsFailsSpec)

/-- ITS FALSE NEIGHBOUR: 'it returns false'. Refute it at one input. -/
def octetsFailsWrong : ChangeSpec := { name := "octetsFails", fn := fun _ => fun
  | [d1, d2] => { results := [.lit (.bool false)], args := [d1, d2] }
  | _ => none }
def OctetsFailsWrongFalsely : Prop := octetsFailsRow.holds Try.pinned (OpenSpec.ofChange octetsFailsWrong)

/- THE SECOND FORM. 'bulk': how many values and letters a reading holds, each counted each time it is reached (what is shared counts as often as it is met; a slice's spare places count too). A statement '..UptoSaid' is the law's where the arguments, and the package variables that the reading takes, are together of bulk at most 1048576: NARROWER than '..Said'. Prove '..Said' where nothing that the law and all that it calls make is longer than what came in: it says more and counts as full. Else prove '..UptoSaid'. A law counts once. -/
mutual
def uptoBulk {H : Type} : DataW H → Nat
  | .lit (.string bytes) => bytes.length + 1
  | .lit _ => 1
  | .nil => 1
  | .ptr d => uptoBulk d + 1
  | .slice elems spare => uptoBulkAll elems + uptoBulkAll spare + 1
  | .agg parts => uptoBulkAll parts + 1
  | .iface _ d => uptoBulk d + 1
  | .map entries => uptoBulkEntries entries + 1
  | .held _ => 1
def uptoBulkAll {H : Type} : List (DataW H) → Nat
  | [] => 0
  | d :: r => uptoBulk d + uptoBulkAll r
def uptoBulkEntries {H : Type} : List (Lit × DataW H) → Nat
  | [] => 0
  | x :: r => uptoBulkEntry x + uptoBulkEntries r
def uptoBulkEntry {H : Type} : Lit × DataW H → Nat
  | (.string bytes, d) => bytes.length + uptoBulk d + 1
  | (_, d) => uptoBulk d + 1
 end
def uptoSmall : (H : Type) → List (DataW H) → Bool := fun _ ds => decide (uptoBulkAll ds ≤ 1048576)
def OpenSpec.upto (s : _root_.Go.ChangeSpec) : _root_.Go.OpenSpec := { _root_.Go.OpenSpec.ofChange s with cond := some uptoSmall }

/-- 'foundrylaw04.OctetsReads', WHERE WHAT IT READS IS OF BULK AT MOST 1048576: true; the input reads as it did. -/
def octetsReadsUptoRow : OpenClaim := { program := "ytcjomppgllbfpaa", sum := "f2bea2dba023d222ceb79a79c843c05f35c34af6b46c8438575c2efa3f6df92c", func := "foundry/foundrylaw04.OctetsReads", spec := "octetsReads", apart := false, narrowed := true }
def OctetsReadsUptoSaid : Prop := octetsReadsUptoRow.holds Try.pinned (OpenSpec.upto octetsReadsSpec)

/-- 'foundrylaw04.OctetsPages', WHERE WHAT IT READS IS OF BULK AT MOST 1048576: true; the input reads as it did. -/
def octetsPagesUptoRow : OpenClaim := { program := "ytcjomppgllbfpaa", sum := "f2bea2dba023d222ceb79a79c843c05f35c34af6b46c8438575c2efa3f6df92c", func := "foundry/foundrylaw04.OctetsPages", spec := "octetsPages", apart := false, narrowed := true }
def OctetsPagesUptoSaid : Prop := octetsPagesUptoRow.holds Try.pinned (OpenSpec.upto octetsPagesSpec)

/-- 'foundrylaw04.OctetsBack', WHERE WHAT IT READS IS OF BULK AT MOST 1048576: true; the input reads as it did. -/
def octetsBackUptoRow : OpenClaim := { program := "ytcjomppgllbfpaa", sum := "f2bea2dba023d222ceb79a79c843c05f35c34af6b46c8438575c2efa3f6df92c", func := "foundry/foundrylaw04.OctetsBack", spec := "octetsBack", apart := false, narrowed := true }
def OctetsBackUptoSaid : Prop := octetsBackUptoRow.holds Try.pinned (OpenSpec.upto octetsBackSpec)

/-- 'foundrylaw04.OctetsLater', WHERE WHAT IT READS IS OF BULK AT MOST 1048576: true; the input reads as it did. -/
def octetsLaterUptoRow : OpenClaim := { program := "ytcjomppgllbfpaa", sum := "f2bea2dba023d222ceb79a79c843c05f35c34af6b46c8438575c2efa3f6df92c", func := "foundry/foundrylaw04.OctetsLater", spec := "octetsLater", apart := false, narrowed := true }
def OctetsLaterUptoSaid : Prop := octetsLaterUptoRow.holds Try.pinned (OpenSpec.upto octetsLaterSpec)

/-- 'foundrylaw04.OctetsFails', WHERE WHAT IT READS IS OF BULK AT MOST 1048576: true; the input reads as it did. -/
def octetsFailsUptoRow : OpenClaim := { program := "ytcjomppgllbfpaa", sum := "f2bea2dba023d222ceb79a79c843c05f35c34af6b46c8438575c2efa3f6df92c", func := "foundry/foundrylaw04.OctetsFails", spec := "octetsFails", apart := false, narrowed := true }
def OctetsFailsUptoSaid : Prop := octetsFailsUptoRow.holds Try.pinned (OpenSpec.upto octetsFailsSpec)

end Rows
end Go.Proofs.Ytcjomppgllbfpaa
