/-
  No cell of these rows narrows 'for every input' (looked for: loops, veiled, ifaces, maps, wideKeys, modest, calm, conditions, laid).
  DERIVED. THE GIVEN ROWS OF THIS SEAT. 5 by the template 'for every input the law returns true; each argument reads behind the call as it read before'; 0 by the template 'total and deterministic' (their statements: YtgambbmonbhpnaaTotals.lean).
  GIVEN WITH THE SEED: the statements are not yours to turn. If you find one false, say at which input.
  Laid BY PROGRAM, IN A SANDBOX (cutbox-rows.mjs): the forced cells as the released guide's own fill.sh prints them over the translation 17a97e970ca5e155… (all of the seat's roots in one cut). By AI agents, Wed Nov 11 2026. No macro, syntax, notation, axiom, sorry.
-/
import Derived.Test.YtgambbmonbhpnaaChecked
import GoSem.Claim
import GoSem.ClaimJoined
import GoSem.ClaimMapViews
import Derived.JoinedTies
import Derived.KernelRfl
namespace Go.Proofs.Ytgambbmonbhpnaa
/- THE CELL 'sum', in the pinned program and in every row, IS THE sha256 OF THE DUMP (.gsa) THAT YtgambbmonbhpnaaProg.lean LOADS. Nothing in Lean hashes anything: it is a label: what it is worth is what the hold of that sum in a sandbox is worth. -/
noncomputable def Try.pinned : Pinned := { name := "ytgambbmonbhpnaa", sum := "17a97e970ca5e1552ebdbdcaaad24e02d1bd5e6bc7e4aba21f21707d8f56db16", checked := Try.checked }
namespace Rows
def none {H : Type} : Left H := { results := [], args := [] }

/-- 'foundrylaw17.CharsMap': WHATEVER THE INPUT: true; the input reads as it did. -/
def charsMapSpec : ChangeSpec := { name := "charsMap", fn := fun _ => fun
  | [d1, d2, d3] => { results := [.lit (.bool true)], args := [d1, d2, d3] }
  | _ => none }
def charsMapRow : OpenClaim := { program := "ytgambbmonbhpnaa", sum := "17a97e970ca5e1552ebdbdcaaad24e02d1bd5e6bc7e4aba21f21707d8f56db16", func := "foundry/foundrylaw17.CharsMap", spec := "charsMap", apart := false }
def CharsMapSaid : Prop := charsMapRow.holds Try.pinned (OpenSpec.ofChange charsMapSpec)

/-- ITS FALSE NEIGHBOUR: 'it returns false'. Refute it at one input. -/
def charsMapWrong : ChangeSpec := { name := "charsMap", fn := fun _ => fun
  | [d1, d2, d3] => { results := [.lit (.bool false)], args := [d1, d2, d3] }
  | _ => none }
def CharsMapWrongFalsely : Prop := charsMapRow.holds Try.pinned (OpenSpec.ofChange charsMapWrong)

/-- 'foundrylaw17.CharsBytes': WHATEVER THE INPUT: true; the input reads as it did. -/
def charsBytesSpec : ChangeSpec := { name := "charsBytes", fn := fun _ => fun
  | [d1, d2, d3] => { results := [.lit (.bool true)], args := [d1, d2, d3] }
  | _ => none }
def charsBytesRow : OpenClaim := { program := "ytgambbmonbhpnaa", sum := "17a97e970ca5e1552ebdbdcaaad24e02d1bd5e6bc7e4aba21f21707d8f56db16", func := "foundry/foundrylaw17.CharsBytes", spec := "charsBytes", apart := false }
def CharsBytesSaid : Prop := charsBytesRow.holds Try.pinned (OpenSpec.ofChange charsBytesSpec)

/-- ITS FALSE NEIGHBOUR: 'it returns false'. Refute it at one input. -/
def charsBytesWrong : ChangeSpec := { name := "charsBytes", fn := fun _ => fun
  | [d1, d2, d3] => { results := [.lit (.bool false)], args := [d1, d2, d3] }
  | _ => none }
def CharsBytesWrongFalsely : Prop := charsBytesRow.holds Try.pinned (OpenSpec.ofChange charsBytesWrong)

/-- 'foundrylaw17.CharsBack': WHATEVER THE INPUT: true; the input reads as it did. -/
def charsBackSpec : ChangeSpec := { name := "charsBack", fn := fun _ => fun
  | [d1, d2, d3] => { results := [.lit (.bool true)], args := [d1, d2, d3] }
  | _ => none }
def charsBackRow : OpenClaim := { program := "ytgambbmonbhpnaa", sum := "17a97e970ca5e1552ebdbdcaaad24e02d1bd5e6bc7e4aba21f21707d8f56db16", func := "foundry/foundrylaw17.CharsBack", spec := "charsBack", apart := false }
def CharsBackSaid : Prop := charsBackRow.holds Try.pinned (OpenSpec.ofChange charsBackSpec)

/-- ITS FALSE NEIGHBOUR: 'it returns false'. Refute it at one input. -/
def charsBackWrong : ChangeSpec := { name := "charsBack", fn := fun _ => fun
  | [d1, d2, d3] => { results := [.lit (.bool false)], args := [d1, d2, d3] }
  | _ => none }
def CharsBackWrongFalsely : Prop := charsBackRow.holds Try.pinned (OpenSpec.ofChange charsBackWrong)

/-- 'foundrylaw17.CharsInverse': WHATEVER THE INPUT: true; the input reads as it did. -/
def charsInverseSpec : ChangeSpec := { name := "charsInverse", fn := fun _ => fun
  | [d1, d2, d3] => { results := [.lit (.bool true)], args := [d1, d2, d3] }
  | _ => none }
def charsInverseRow : OpenClaim := { program := "ytgambbmonbhpnaa", sum := "17a97e970ca5e1552ebdbdcaaad24e02d1bd5e6bc7e4aba21f21707d8f56db16", func := "foundry/foundrylaw17.CharsInverse", spec := "charsInverse", apart := false }
def CharsInverseSaid : Prop := charsInverseRow.holds Try.pinned (OpenSpec.ofChange charsInverseSpec)

/-- ITS FALSE NEIGHBOUR: 'it returns false'. Refute it at one input. -/
def charsInverseWrong : ChangeSpec := { name := "charsInverse", fn := fun _ => fun
  | [d1, d2, d3] => { results := [.lit (.bool false)], args := [d1, d2, d3] }
  | _ => none }
def CharsInverseWrongFalsely : Prop := charsInverseRow.holds Try.pinned (OpenSpec.ofChange charsInverseWrong)

/-- 'foundrylaw17.CharsBehind': WHATEVER THE INPUT: true; the input reads as it did. -/
def charsBehindSpec : ChangeSpec := { name := "charsBehind", fn := fun _ => fun
  | [d1, d2, d3] => { results := [.lit (.bool true)], args := [d1, d2, d3] }
  | _ => none }
def charsBehindRow : OpenClaim := { program := "ytgambbmonbhpnaa", sum := "17a97e970ca5e1552ebdbdcaaad24e02d1bd5e6bc7e4aba21f21707d8f56db16", func := "foundry/foundrylaw17.CharsBehind", spec := "charsBehind", apart := false }
def CharsBehindSaid : Prop := charsBehindRow.holds Try.pinned (OpenSpec.ofChange charsBehindSpec)

/-- ITS FALSE NEIGHBOUR: 'it returns false'. Refute it at one input. -/
def charsBehindWrong : ChangeSpec := { name := "charsBehind", fn := fun _ => fun
  | [d1, d2, d3] => { results := [.lit (.bool false)], args := [d1, d2, d3] }
  | _ => none }
def CharsBehindWrongFalsely : Prop := charsBehindRow.holds Try.pinned (OpenSpec.ofChange charsBehindWrong)

/- THE SECOND FORM. 'bulk': how many values and letters a reading holds, each counted each time it is reached (what is shared counts as often as it is met; a slice's spare places count too). A statement '..UptoSaid' is the law's where the arguments, and the package variables that the reading takes, are together of bulk at most 1048576: NARROWER than '..Said'. Prove '..Said' where nothing that the law and all that it calls make is longer than what came in: it says more and counts as full. Else prove '..UptoSaid'. A law counts once. -/
mutual
def uptoBulk {H : Type} : DataW H → Nat
  | .lit (.string bytes) => bytes.length + 1
  | .lit _ => 1
  | .nil => 1
  | .ptr d => uptoBulk d + 1
  | .slice elems spare => uptoBulkAll elems + uptoBulkAll spare + 1
  | .agg parts => uptoBulkAll parts + 1
  | .iface _ d => uptoBulk d + 1
  | .map entries => uptoBulkEntries entries + 1
  | .held _ => 1
def uptoBulkAll {H : Type} : List (DataW H) → Nat
  | [] => 0
  | d :: r => uptoBulk d + uptoBulkAll r
def uptoBulkEntries {H : Type} : List (Lit × DataW H) → Nat
  | [] => 0
  | x :: r => uptoBulkEntry x + uptoBulkEntries r
def uptoBulkEntry {H : Type} : Lit × DataW H → Nat
  | (.string bytes, d) => bytes.length + uptoBulk d + 1
  | (_, d) => uptoBulk d + 1
 end
def uptoSmall : (H : Type) → List (DataW H) → Bool := fun _ ds => decide (uptoBulkAll ds ≤ 1048576)
def OpenSpec.upto (s : _root_.Go.ChangeSpec) : _root_.Go.OpenSpec := { _root_.Go.OpenSpec.ofChange s with cond := some uptoSmall }

/-- 'foundrylaw17.CharsMap', WHERE WHAT IT READS IS OF BULK AT MOST 1048576: true; the input reads as it did. -/
def charsMapUptoRow : OpenClaim := { program := "ytgambbmonbhpnaa", sum := "17a97e970ca5e1552ebdbdcaaad24e02d1bd5e6bc7e4aba21f21707d8f56db16", func := "foundry/foundrylaw17.CharsMap", spec := "charsMap", apart := false, narrowed := true }
def CharsMapUptoSaid : Prop := charsMapUptoRow.holds Try.pinned (OpenSpec.upto charsMapSpec)

/-- 'foundrylaw17.CharsBytes', WHERE WHAT IT READS IS OF BULK AT MOST 1048576: true; the input reads as it did. -/
def charsBytesUptoRow : OpenClaim := { program := "ytgambbmonbhpnaa", sum := "17a97e970ca5e1552ebdbdcaaad24e02d1bd5e6bc7e4aba21f21707d8f56db16", func := "foundry/foundrylaw17.CharsBytes", spec := "charsBytes", apart := false, narrowed := true }
def CharsBytesUptoSaid : Prop := charsBytesUptoRow.holds Try.pinned (OpenSpec.upto charsBytesSpec)

/-- 'foundrylaw17.CharsBack', WHERE WHAT IT READS IS OF BULK AT MOST 1048576: true; the input reads as it did. -/
def charsBackUptoRow : OpenClaim := { program := "ytgambbmonbhpnaa", sum := "17a97e970ca5e1552ebdbdcaaad24e02d1bd5e6bc7e4aba21f21707d8f56db16", func := "foundry/foundrylaw17.CharsBack", spec := "charsBack", apart := false, narrowed := true }
def CharsBackUptoSaid : Prop := charsBackUptoRow.holds Try.pinned (OpenSpec.upto charsBackSpec)

/-- 'foundrylaw17.CharsInverse', WHERE WHAT IT READS IS OF BULK AT MOST 1048576: true; the input reads as it did. -/
def charsInverseUptoRow : OpenClaim := { program := "ytgambbmonbhpnaa", sum := "17a97e970ca5e1552ebdbdcaaad24e02d1bd5e6bc7e4aba21f21707d8f56db16", func := "foundry/foundrylaw17.CharsInverse", spec := "charsInverse", apart := false, narrowed := true }
def CharsInverseUptoSaid : Prop := charsInverseUptoRow.holds Try.pinned (OpenSpec.upto charsInverseSpec)

/-- 'foundrylaw17.CharsBehind', WHERE WHAT IT READS IS OF BULK AT MOST 1048576: true; the input reads as it did. -/
def charsBehindUptoRow : OpenClaim := { program := "ytgambbmonbhpnaa", sum := "17a97e970ca5e1552ebdbdcaaad24e02d1bd5e6bc7e4aba21f21707d8f56db16", func := "foundry/foundrylaw17.CharsBehind", spec := "charsBehind", apart := false, narrowed := true }
def CharsBehindUptoSaid : Prop := charsBehindUptoRow.holds Try.pinned (OpenSpec.upto charsBehindSpec)

end Rows
end Go.Proofs.Ytgambbmonbhpnaa
