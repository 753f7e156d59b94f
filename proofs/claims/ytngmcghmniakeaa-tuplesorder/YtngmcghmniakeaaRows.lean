/-
  No cell of these rows narrows 'for every input' (looked for: loops, veiled, ifaces, maps, wideKeys, modest, calm, conditions, laid).
  DERIVED. THE GIVEN ROWS OF THIS SEAT. 3 by the template 'for every input the law returns true; each argument reads behind the call as it read before'; 0 by the template 'total and deterministic' (their statements: YtngmcghmniakeaaTotals.lean).
  GIVEN WITH THE SEED: the statements are not yours to turn. If you find one false, say at which input.
  Laid BY PROGRAM, IN A SANDBOX (cutbox-rows.mjs): the forced cells as the released guide's own fill.sh prints them over the translation b432f9eed7548d34… (all of the seat's roots in one cut). By AI agents, Wed Nov 11 2026. No macro, syntax, notation, axiom, sorry.
-/
import Derived.Test.YtngmcghmniakeaaChecked
import GoSem.Claim
import GoSem.ClaimJoined
import GoSem.ClaimMapViews
import Derived.JoinedTies
import Derived.KernelRfl
namespace Go.Proofs.Ytngmcghmniakeaa
/- THE CELL 'sum', in the pinned program and in every row, IS THE sha256 OF THE DUMP (.gsa) THAT YtngmcghmniakeaaProg.lean LOADS. Nothing in Lean hashes anything: it is a label: what it is worth is what the hold of that sum in a sandbox is worth. -/
noncomputable def Try.pinned : Pinned := { name := "ytngmcghmniakeaa", sum := "b432f9eed7548d342c2858bd873ad259243601fde5b52725eb19ef38a375a68e", checked := Try.checked }
namespace Rows
def none {H : Type} : Left H := { results := [], args := [] }

/-- 'foundrylaw14.TuplesUsual': WHATEVER THE INPUT: true; the input reads as it did. -/
def tuplesUsualSpec : ChangeSpec := { name := "tuplesUsual", fn := fun _ => fun
  | [d1, d2] => { results := [.lit (.bool true)], args := [d1, d2] }
  | _ => none }
def tuplesUsualRow : OpenClaim := { program := "ytngmcghmniakeaa", sum := "b432f9eed7548d342c2858bd873ad259243601fde5b52725eb19ef38a375a68e", func := "foundry/foundrylaw14.TuplesUsual", spec := "tuplesUsual", unfollowed := true, recurses := true, apart := false }
def TuplesUsualSaid : Prop := tuplesUsualRow.holds Try.pinned (OpenSpec.ofChange tuplesUsualSpec)

/-- ITS FALSE NEIGHBOUR: 'it returns false'. Refute it at one input. -/
def tuplesUsualWrong : ChangeSpec := { name := "tuplesUsual", fn := fun _ => fun
  | [d1, d2] => { results := [.lit (.bool false)], args := [d1, d2] }
  | _ => none }
def TuplesUsualWrongFalsely : Prop := tuplesUsualRow.holds Try.pinned (OpenSpec.ofChange tuplesUsualWrong)

/-- 'foundrylaw14.TuplesOrder': WHATEVER THE INPUT: true; the input reads as it did. -/
def tuplesOrderSpec : ChangeSpec := { name := "tuplesOrder", fn := fun _ => fun
  | [d1, d2] => { results := [.lit (.bool true)], args := [d1, d2] }
  | _ => none }
def tuplesOrderRow : OpenClaim := { program := "ytngmcghmniakeaa", sum := "b432f9eed7548d342c2858bd873ad259243601fde5b52725eb19ef38a375a68e", func := "foundry/foundrylaw14.TuplesOrder", spec := "tuplesOrder", unfollowed := true, recurses := true, apart := false }
def TuplesOrderSaid : Prop := tuplesOrderRow.holds Try.pinned (OpenSpec.ofChange tuplesOrderSpec)

/-- ITS FALSE NEIGHBOUR: 'it returns false'. Refute it at one input. -/
def tuplesOrderWrong : ChangeSpec := { name := "tuplesOrder", fn := fun _ => fun
  | [d1, d2] => { results := [.lit (.bool false)], args := [d1, d2] }
  | _ => none }
def TuplesOrderWrongFalsely : Prop := tuplesOrderRow.holds Try.pinned (OpenSpec.ofChange tuplesOrderWrong)

/-- 'foundrylaw14.TuplesNamed': WHATEVER THE INPUT: true; the input reads as it did. -/
def tuplesNamedSpec : ChangeSpec := { name := "tuplesNamed", fn := fun _ => fun
  | [d1, d2] => { results := [.lit (.bool true)], args := [d1, d2] }
  | _ => none }
def tuplesNamedRow : OpenClaim := { program := "ytngmcghmniakeaa", sum := "b432f9eed7548d342c2858bd873ad259243601fde5b52725eb19ef38a375a68e", func := "foundry/foundrylaw14.TuplesNamed", spec := "tuplesNamed", unfollowed := true, recurses := true, apart := false }
def TuplesNamedSaid : Prop := tuplesNamedRow.holds Try.pinned (OpenSpec.ofChange tuplesNamedSpec)

/-- ITS FALSE NEIGHBOUR: 'it returns false'. Refute it at one input. -/
def tuplesNamedWrong : ChangeSpec := { name := "tuplesNamed", fn := fun _ => fun
  | [d1, d2] => { results := [.lit (.bool false)], args := [d1, d2] }
  | _ => none }
def TuplesNamedWrongFalsely : Prop := tuplesNamedRow.holds Try.pinned (OpenSpec.ofChange tuplesNamedWrong)

/- THE SECOND FORM. 'bulk': how many values and letters a reading holds, each counted each time it is reached (what is shared counts as often as it is met; a slice's spare places count too). A statement '..UptoSaid' is the law's where the arguments, and the package variables that the reading takes, are together of bulk at most 1048576: NARROWER than '..Said'. Prove '..Said' where nothing that the law and all that it calls make is longer than what came in: it says more and counts as full. Else prove '..UptoSaid'. A law counts once. -/
mutual
def uptoBulk {H : Type} : DataW H → Nat
  | .lit (.string bytes) => bytes.length + 1
  | .lit _ => 1
  | .nil => 1
  | .ptr d => uptoBulk d + 1
  | .slice elems spare => uptoBulkAll elems + uptoBulkAll spare + 1
  | .agg parts => uptoBulkAll parts + 1
  | .iface _ d => uptoBulk d + 1
  | .map entries => uptoBulkEntries entries + 1
  | .held _ => 1
def uptoBulkAll {H : Type} : List (DataW H) → Nat
  | [] => 0
  | d :: r => uptoBulk d + uptoBulkAll r
def uptoBulkEntries {H : Type} : List (Lit × DataW H) → Nat
  | [] => 0
  | x :: r => uptoBulkEntry x + uptoBulkEntries r
def uptoBulkEntry {H : Type} : Lit × DataW H → Nat
  | (.string bytes, d) => bytes.length + uptoBulk d + 1
  | (_, d) => uptoBulk d + 1
 end
def uptoSmall : (H : Type) → List (DataW H) → Bool := fun _ ds => decide (uptoBulkAll ds ≤ 1048576)
def OpenSpec.upto (s : _root_.Go.ChangeSpec) : _root_.Go.OpenSpec := { _root_.Go.OpenSpec.ofChange s with cond := some uptoSmall }

/-- 'foundrylaw14.TuplesUsual', WHERE WHAT IT READS IS OF BULK AT MOST 1048576: true; the input reads as it did. -/
def tuplesUsualUptoRow : OpenClaim := { program := "ytngmcghmniakeaa", sum := "b432f9eed7548d342c2858bd873ad259243601fde5b52725eb19ef38a375a68e", func := "foundry/foundrylaw14.TuplesUsual", spec := "tuplesUsual", unfollowed := true, recurses := true, apart := false, narrowed := true }
def TuplesUsualUptoSaid : Prop := tuplesUsualUptoRow.holds Try.pinned (OpenSpec.upto tuplesUsualSpec)

/-- 'foundrylaw14.TuplesOrder', WHERE WHAT IT READS IS OF BULK AT MOST 1048576: true; the input reads as it did. -/
def tuplesOrderUptoRow : OpenClaim := { program := "ytngmcghmniakeaa", sum := "b432f9eed7548d342c2858bd873ad259243601fde5b52725eb19ef38a375a68e", func := "foundry/foundrylaw14.TuplesOrder", spec := "tuplesOrder", unfollowed := true, recurses := true, apart := false, narrowed := true }
def TuplesOrderUptoSaid : Prop := tuplesOrderUptoRow.holds Try.pinned (OpenSpec.upto tuplesOrderSpec)

/-- 'foundrylaw14.TuplesNamed', WHERE WHAT IT READS IS OF BULK AT MOST 1048576: true; the input reads as it did. -/
def tuplesNamedUptoRow : OpenClaim := { program := "ytngmcghmniakeaa", sum := "b432f9eed7548d342c2858bd873ad259243601fde5b52725eb19ef38a375a68e", func := "foundry/foundrylaw14.TuplesNamed", spec := "tuplesNamed", unfollowed := true, recurses := true, apart := false, narrowed := true }
def TuplesNamedUptoSaid : Prop := tuplesNamedUptoRow.holds Try.pinned (OpenSpec.upto tuplesNamedSpec)

end Rows
end Go.Proofs.Ytngmcghmniakeaa
