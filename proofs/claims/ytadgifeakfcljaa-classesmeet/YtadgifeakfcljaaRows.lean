/-
  No cell of these rows narrows 'for every input' (looked for: loops, veiled, ifaces, maps, wideKeys, modest, calm, conditions, laid).
  DERIVED. THE GIVEN ROWS OF THIS SEAT. 5 by the template 'for every input the law returns true; each argument reads behind the call as it read before'; 0 by the template 'total and deterministic' (their statements: YtadgifeakfcljaaTotals.lean).
  GIVEN WITH THE SEED: the statements are not yours to turn. If you find one false, say at which input.
  Laid BY PROGRAM, IN A SANDBOX (cutbox-rows.mjs): the forced cells as the released guide's own fill.sh prints them over the translation 6555fa1cd5f915a1… (all of the seat's roots in one cut). By AI agents, Wed Nov 11 2026. No macro, syntax, notation, axiom, sorry.
-/
import Derived.Test.YtadgifeakfcljaaChecked
import GoSem.Claim
import GoSem.ClaimJoined
import GoSem.ClaimMapViews
import Derived.JoinedTies
import Derived.KernelRfl
namespace Go.Proofs.Ytadgifeakfcljaa
/- THE CELL 'sum', in the pinned program and in every row, IS THE sha256 OF THE DUMP (.gsa) THAT YtadgifeakfcljaaProg.lean LOADS. Nothing in Lean hashes anything: it is a label: what it is worth is what the hold of that sum in a sandbox is worth. -/
noncomputable def Try.pinned : Pinned := { name := "ytadgifeakfcljaa", sum := "6555fa1cd5f915a13f91a92fcbcc5bd96ad3fc74028d3af7d66948131909cea8", checked := Try.checked }
namespace Rows
def none {H : Type} : Left H := { results := [], args := [] }

/-- 'foundrylaw19.ClassesSteps': WHATEVER THE INPUT: true; the input reads as it did. -/
def classesStepsSpec : ChangeSpec := { name := "classesSteps", fn := fun _ => fun
  | [d1, d2, d3] => { results := [.lit (.bool true)], args := [d1, d2, d3] }
  | _ => none }
def classesStepsRow : OpenClaim := { program := "ytadgifeakfcljaa", sum := "6555fa1cd5f915a13f91a92fcbcc5bd96ad3fc74028d3af7d66948131909cea8", func := "foundry/foundrylaw19.ClassesSteps", spec := "classesSteps", unfollowed := true, recurses := true, apart := false }
def ClassesStepsSaid : Prop := classesStepsRow.holds Try.pinned (OpenSpec.ofChange classesStepsSpec)

/-- ITS FALSE NEIGHBOUR: 'it returns false'. Refute it at one input. -/
def classesStepsWrong : ChangeSpec := { name := "classesSteps", fn := fun _ => fun
  | [d1, d2, d3] => { results := [.lit (.bool false)], args := [d1, d2, d3] }
  | _ => none }
def ClassesStepsWrongFalsely : Prop := classesStepsRow.holds Try.pinned (OpenSpec.ofChange classesStepsWrong)

/-- 'foundrylaw19.ClassesMeet': WHATEVER THE INPUT: true; the input reads as it did. -/
def classesMeetSpec : ChangeSpec := { name := "classesMeet", fn := fun _ => fun
  | [d1, d2, d3] => { results := [.lit (.bool true)], args := [d1, d2, d3] }
  | _ => none }
def classesMeetRow : OpenClaim := { program := "ytadgifeakfcljaa", sum := "6555fa1cd5f915a13f91a92fcbcc5bd96ad3fc74028d3af7d66948131909cea8", func := "foundry/foundrylaw19.ClassesMeet", spec := "classesMeet", apart := false }
def ClassesMeetSaid : Prop := classesMeetRow.holds Try.pinned (OpenSpec.ofChange classesMeetSpec)

/-- ITS FALSE NEIGHBOUR: 'it returns false'. Refute it at one input. -/
def classesMeetWrong : ChangeSpec := { name := "classesMeet", fn := fun _ => fun
  | [d1, d2, d3] => { results := [.lit (.bool false)], args := [d1, d2, d3] }
  | _ => none }
def ClassesMeetWrongFalsely : Prop := classesMeetRow.holds Try.pinned (OpenSpec.ofChange classesMeetWrong)

/-- 'foundrylaw19.ClassesPut': WHATEVER THE INPUT: true; the input reads as it did. -/
def classesPutSpec : ChangeSpec := { name := "classesPut", fn := fun _ => fun
  | [d1, d2, d3] => { results := [.lit (.bool true)], args := [d1, d2, d3] }
  | _ => none }
def classesPutRow : OpenClaim := { program := "ytadgifeakfcljaa", sum := "6555fa1cd5f915a13f91a92fcbcc5bd96ad3fc74028d3af7d66948131909cea8", func := "foundry/foundrylaw19.ClassesPut", spec := "classesPut", apart := false }
def ClassesPutSaid : Prop := classesPutRow.holds Try.pinned (OpenSpec.ofChange classesPutSpec)

/-- ITS FALSE NEIGHBOUR: 'it returns false'. Refute it at one input. -/
def classesPutWrong : ChangeSpec := { name := "classesPut", fn := fun _ => fun
  | [d1, d2, d3] => { results := [.lit (.bool false)], args := [d1, d2, d3] }
  | _ => none }
def ClassesPutWrongFalsely : Prop := classesPutRow.holds Try.pinned (OpenSpec.ofChange classesPutWrong)

/-- 'foundrylaw19.ClassesMet': WHATEVER THE INPUT: true; the input reads as it did. -/
def classesMetSpec : ChangeSpec := { name := "classesMet", fn := fun _ => fun
  | [d1, d2, d3] => { results := [.lit (.bool true)], args := [d1, d2, d3] }
  | _ => none }
def classesMetRow : OpenClaim := { program := "ytadgifeakfcljaa", sum := "6555fa1cd5f915a13f91a92fcbcc5bd96ad3fc74028d3af7d66948131909cea8", func := "foundry/foundrylaw19.ClassesMet", spec := "classesMet", apart := false }
def ClassesMetSaid : Prop := classesMetRow.holds Try.pinned (OpenSpec.ofChange classesMetSpec)

/-- ITS FALSE NEIGHBOUR: 'it returns false'. Refute it at one input. -/
def classesMetWrong : ChangeSpec := { name := "classesMet", fn := fun _ => fun
  | [d1, d2, d3] => { results := [.lit (.bool false)], args := [d1, d2, d3] }
  | _ => none }
def ClassesMetWrongFalsely : Prop := classesMetRow.holds Try.pinned (OpenSpec.ofChange classesMetWrong)

/-- 'foundrylaw19.ClassesBack': WHATEVER THE INPUT: true; the input reads as it did. -/
def classesBackSpec : ChangeSpec := { name := "classesBack", fn := fun _ => fun
  | [d1, d2] => { results := [.lit (.bool true)], args := [d1, d2] }
  | _ => none }
def classesBackRow : OpenClaim := { program := "ytadgifeakfcljaa", sum := "6555fa1cd5f915a13f91a92fcbcc5bd96ad3fc74028d3af7d66948131909cea8", func := "foundry/foundrylaw19.ClassesBack", spec := "classesBack", unfollowed := true, recurses := true, apart := false }
def ClassesBackSaid : Prop := classesBackRow.holds Try.pinned (OpenSpec.ofChange classesBackSpec)

/-- ITS FALSE NEIGHBOUR: 'it returns false'. Refute it at one input. -/
def classesBackWrong : ChangeSpec := { name := "classesBack", fn := fun _ => fun
  | [d1, d2] => { results := [.lit (.bool false)], args := [d1, d2] }
  | _ => none }
def ClassesBackWrongFalsely : Prop := classesBackRow.holds Try.pinned (OpenSpec.ofChange classesBackWrong)

/- THE SECOND FORM. 'bulk': how many values and letters a reading holds, each counted each time it is reached (what is shared counts as often as it is met; a slice's spare places count too). A statement '..UptoSaid' is the law's where the arguments, and the package variables that the reading takes, are together of bulk at most 1048576: NARROWER than '..Said'. Prove '..Said' where nothing that the law and all that it calls make is longer than what came in: it says more and counts as full. Else prove '..UptoSaid'. A law counts once. -/
mutual
def uptoBulk {H : Type} : DataW H → Nat
  | .lit (.string bytes) => bytes.length + 1
  | .lit _ => 1
  | .nil => 1
  | .ptr d => uptoBulk d + 1
  | .slice elems spare => uptoBulkAll elems + uptoBulkAll spare + 1
  | .agg parts => uptoBulkAll parts + 1
  | .iface _ d => uptoBulk d + 1
  | .map entries => uptoBulkEntries entries + 1
  | .held _ => 1
def uptoBulkAll {H : Type} : List (DataW H) → Nat
  | [] => 0
  | d :: r => uptoBulk d + uptoBulkAll r
def uptoBulkEntries {H : Type} : List (Lit × DataW H) → Nat
  | [] => 0
  | x :: r => uptoBulkEntry x + uptoBulkEntries r
def uptoBulkEntry {H : Type} : Lit × DataW H → Nat
  | (.string bytes, d) => bytes.length + uptoBulk d + 1
  | (_, d) => uptoBulk d + 1
 end
def uptoSmall : (H : Type) → List (DataW H) → Bool := fun _ ds => decide (uptoBulkAll ds ≤ 1048576)
def OpenSpec.upto (s : _root_.Go.ChangeSpec) : _root_.Go.OpenSpec := { _root_.Go.OpenSpec.ofChange s with cond := some uptoSmall }

/-- 'foundrylaw19.ClassesSteps', WHERE WHAT IT READS IS OF BULK AT MOST 1048576: true; the input reads as it did. -/
def classesStepsUptoRow : OpenClaim := { program := "ytadgifeakfcljaa", sum := "6555fa1cd5f915a13f91a92fcbcc5bd96ad3fc74028d3af7d66948131909cea8", func := "foundry/foundrylaw19.ClassesSteps", spec := "classesSteps", unfollowed := true, recurses := true, apart := false, narrowed := true }
def ClassesStepsUptoSaid : Prop := classesStepsUptoRow.holds Try.pinned (OpenSpec.upto classesStepsSpec)

/-- 'foundrylaw19.ClassesMeet', WHERE WHAT IT READS IS OF BULK AT MOST 1048576: true; the input reads as it did. -/
def classesMeetUptoRow : OpenClaim := { program := "ytadgifeakfcljaa", sum := "6555fa1cd5f915a13f91a92fcbcc5bd96ad3fc74028d3af7d66948131909cea8", func := "foundry/foundrylaw19.ClassesMeet", spec := "classesMeet", apart := false, narrowed := true }
def ClassesMeetUptoSaid : Prop := classesMeetUptoRow.holds Try.pinned (OpenSpec.upto classesMeetSpec)

/-- 'foundrylaw19.ClassesPut', WHERE WHAT IT READS IS OF BULK AT MOST 1048576: true; the input reads as it did. -/
def classesPutUptoRow : OpenClaim := { program := "ytadgifeakfcljaa", sum := "6555fa1cd5f915a13f91a92fcbcc5bd96ad3fc74028d3af7d66948131909cea8", func := "foundry/foundrylaw19.ClassesPut", spec := "classesPut", apart := false, narrowed := true }
def ClassesPutUptoSaid : Prop := classesPutUptoRow.holds Try.pinned (OpenSpec.upto classesPutSpec)

/-- 'foundrylaw19.ClassesMet', WHERE WHAT IT READS IS OF BULK AT MOST 1048576: true; the input reads as it did. -/
def classesMetUptoRow : OpenClaim := { program := "ytadgifeakfcljaa", sum := "6555fa1cd5f915a13f91a92fcbcc5bd96ad3fc74028d3af7d66948131909cea8", func := "foundry/foundrylaw19.ClassesMet", spec := "classesMet", apart := false, narrowed := true }
def ClassesMetUptoSaid : Prop := classesMetUptoRow.holds Try.pinned (OpenSpec.upto classesMetSpec)

/-- 'foundrylaw19.ClassesBack', WHERE WHAT IT READS IS OF BULK AT MOST 1048576: true; the input reads as it did. -/
def classesBackUptoRow : OpenClaim := { program := "ytadgifeakfcljaa", sum := "6555fa1cd5f915a13f91a92fcbcc5bd96ad3fc74028d3af7d66948131909cea8", func := "foundry/foundrylaw19.ClassesBack", spec := "classesBack", unfollowed := true, recurses := true, apart := false, narrowed := true }
def ClassesBackUptoSaid : Prop := classesBackUptoRow.holds Try.pinned (OpenSpec.upto classesBackSpec)

end Rows
end Go.Proofs.Ytadgifeakfcljaa
