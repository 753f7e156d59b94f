/-
  No cell of these rows narrows 'for every input' (looked for: loops, veiled, ifaces, maps, wideKeys, modest, calm, conditions, laid).
  DERIVED. THE GIVEN ROWS OF THIS SEAT. 5 by the template 'for every input the law returns true; each argument reads behind the call as it read before'; 0 by the template 'total and deterministic' (their statements: YtaejlopkdkaphaaTotals.lean).
  GIVEN WITH THE SEED: the statements are not yours to turn. If you find one false, say at which input.
  Laid BY PROGRAM, IN A SANDBOX (cutbox-rows.mjs): the forced cells as the released guide's own fill.sh prints them over the translation 1956a7b133adb18f… (all of the seat's roots in one cut). By AI agents, Wed Nov 11 2026. No macro, syntax, notation, axiom, sorry.
-/
import Derived.Test.YtaejlopkdkaphaaChecked
import GoSem.Claim
import GoSem.ClaimJoined
import GoSem.ClaimMapViews
import Derived.JoinedTies
import Derived.KernelRfl
namespace Go.Proofs.Ytaejlopkdkaphaa
/- THE CELL 'sum', in the pinned program and in every row, IS THE sha256 OF THE DUMP (.gsa) THAT YtaejlopkdkaphaaProg.lean LOADS. Nothing in Lean hashes anything: it is a label: what it is worth is what the hold of that sum in a sandbox is worth. -/
noncomputable def Try.pinned : Pinned := { name := "ytaejlopkdkaphaa", sum := "1956a7b133adb18f9feab9f3ca48651981a828d4133641ed75883c89111b74aa", checked := Try.checked }
namespace Rows
def none {H : Type} : Left H := { results := [], args := [] }

/-- 'foundrylaw22.FeatsChoose': WHATEVER THE INPUT: true; the input reads as it did. -/
def featsChooseSpec : ChangeSpec := { name := "featsChoose", fn := fun _ => fun
  | [d1, d2, d3] => { results := [.lit (.bool true)], args := [d1, d2, d3] }
  | _ => none }
def featsChooseRow : OpenClaim := { program := "ytaejlopkdkaphaa", sum := "1956a7b133adb18f9feab9f3ca48651981a828d4133641ed75883c89111b74aa", func := "foundry/foundrylaw22.FeatsChoose", spec := "featsChoose", unfollowed := true, recurses := true, apart := false }
def FeatsChooseSaid : Prop := featsChooseRow.holds Try.pinned (OpenSpec.ofChange featsChooseSpec)

/-- ITS FALSE NEIGHBOUR: 'it returns false'. Refute it at one input. -/
def featsChooseWrong : ChangeSpec := { name := "featsChoose", fn := fun _ => fun
  | [d1, d2, d3] => { results := [.lit (.bool false)], args := [d1, d2, d3] }
  | _ => none }
def FeatsChooseWrongFalsely : Prop := featsChooseRow.holds Try.pinned (OpenSpec.ofChange featsChooseWrong)

/-- 'foundrylaw22.FeatsBytes': WHATEVER THE INPUT: true; the input reads as it did. -/
def featsBytesSpec : ChangeSpec := { name := "featsBytes", fn := fun _ => fun
  | [d1, d2] => { results := [.lit (.bool true)], args := [d1, d2] }
  | _ => none }
def featsBytesRow : OpenClaim := { program := "ytaejlopkdkaphaa", sum := "1956a7b133adb18f9feab9f3ca48651981a828d4133641ed75883c89111b74aa", func := "foundry/foundrylaw22.FeatsBytes", spec := "featsBytes", unfollowed := true, recurses := true, apart := false }
def FeatsBytesSaid : Prop := featsBytesRow.holds Try.pinned (OpenSpec.ofChange featsBytesSpec)

/-- ITS FALSE NEIGHBOUR: 'it returns false'. Refute it at one input. -/
def featsBytesWrong : ChangeSpec := { name := "featsBytes", fn := fun _ => fun
  | [d1, d2] => { results := [.lit (.bool false)], args := [d1, d2] }
  | _ => none }
def FeatsBytesWrongFalsely : Prop := featsBytesRow.holds Try.pinned (OpenSpec.ofChange featsBytesWrong)

/-- 'foundrylaw22.FeatsBack': WHATEVER THE INPUT: true; the input reads as it did. -/
def featsBackSpec : ChangeSpec := { name := "featsBack", fn := fun _ => fun
  | [d1, d2] => { results := [.lit (.bool true)], args := [d1, d2] }
  | _ => none }
def featsBackRow : OpenClaim := { program := "ytaejlopkdkaphaa", sum := "1956a7b133adb18f9feab9f3ca48651981a828d4133641ed75883c89111b74aa", func := "foundry/foundrylaw22.FeatsBack", spec := "featsBack", unfollowed := true, recurses := true, apart := false }
def FeatsBackSaid : Prop := featsBackRow.holds Try.pinned (OpenSpec.ofChange featsBackSpec)

/-- ITS FALSE NEIGHBOUR: 'it returns false'. Refute it at one input. -/
def featsBackWrong : ChangeSpec := { name := "featsBack", fn := fun _ => fun
  | [d1, d2] => { results := [.lit (.bool false)], args := [d1, d2] }
  | _ => none }
def FeatsBackWrongFalsely : Prop := featsBackRow.holds Try.pinned (OpenSpec.ofChange featsBackWrong)

/-- 'foundrylaw22.FeatsTags': WHATEVER THE INPUT: true; the input reads as it did. -/
def featsTagsSpec : ChangeSpec := { name := "featsTags", fn := fun _ => fun
  | [d1, d2, d3] => { results := [.lit (.bool true)], args := [d1, d2, d3] }
  | _ => none }
def featsTagsRow : OpenClaim := { program := "ytaejlopkdkaphaa", sum := "1956a7b133adb18f9feab9f3ca48651981a828d4133641ed75883c89111b74aa", func := "foundry/foundrylaw22.FeatsTags", spec := "featsTags", unfollowed := true, recurses := true, apart := false }
def FeatsTagsSaid : Prop := featsTagsRow.holds Try.pinned (OpenSpec.ofChange featsTagsSpec)

/-- ITS FALSE NEIGHBOUR: 'it returns false'. Refute it at one input. -/
def featsTagsWrong : ChangeSpec := { name := "featsTags", fn := fun _ => fun
  | [d1, d2, d3] => { results := [.lit (.bool false)], args := [d1, d2, d3] }
  | _ => none }
def FeatsTagsWrongFalsely : Prop := featsTagsRow.holds Try.pinned (OpenSpec.ofChange featsTagsWrong)

/-- 'foundrylaw22.FeatsConds': WHATEVER THE INPUT: true; the input reads as it did. -/
def featsCondsSpec : ChangeSpec := { name := "featsConds", fn := fun _ => fun
  | [d1, d2, d3] => { results := [.lit (.bool true)], args := [d1, d2, d3] }
  | _ => none }
def featsCondsRow : OpenClaim := { program := "ytaejlopkdkaphaa", sum := "1956a7b133adb18f9feab9f3ca48651981a828d4133641ed75883c89111b74aa", func := "foundry/foundrylaw22.FeatsConds", spec := "featsConds", unfollowed := true, recurses := true, apart := false }
def FeatsCondsSaid : Prop := featsCondsRow.holds Try.pinned (OpenSpec.ofChange featsCondsSpec)

/-- ITS FALSE NEIGHBOUR: 'it returns false'. Refute it at one input. -/
def featsCondsWrong : ChangeSpec := { name := "featsConds", fn := fun _ => fun
  | [d1, d2, d3] => { results := [.lit (.bool false)], args := [d1, d2, d3] }
  | _ => none }
def FeatsCondsWrongFalsely : Prop := featsCondsRow.holds Try.pinned (OpenSpec.ofChange featsCondsWrong)

/- THE SECOND FORM. 'bulk': how many values and letters a reading holds, each counted each time it is reached (what is shared counts as often as it is met; a slice's spare places count too). A statement '..UptoSaid' is the law's where the arguments, and the package variables that the reading takes, are together of bulk at most 1048576: NARROWER than '..Said'. Prove '..Said' where nothing that the law and all that it calls make is longer than what came in: it says more and counts as full. Else prove '..UptoSaid'. A law counts once. -/
mutual
def uptoBulk {H : Type} : DataW H → Nat
  | .lit (.string bytes) => bytes.length + 1
  | .lit _ => 1
  | .nil => 1
  | .ptr d => uptoBulk d + 1
  | .slice elems spare => uptoBulkAll elems + uptoBulkAll spare + 1
  | .agg parts => uptoBulkAll parts + 1
  | .iface _ d => uptoBulk d + 1
  | .map entries => uptoBulkEntries entries + 1
  | .held _ => 1
def uptoBulkAll {H : Type} : List (DataW H) → Nat
  | [] => 0
  | d :: r => uptoBulk d + uptoBulkAll r
def uptoBulkEntries {H : Type} : List (Lit × DataW H) → Nat
  | [] => 0
  | x :: r => uptoBulkEntry x + uptoBulkEntries r
def uptoBulkEntry {H : Type} : Lit × DataW H → Nat
  | (.string bytes, d) => bytes.length + uptoBulk d + 1
  | (_, d) => uptoBulk d + 1
 end
def uptoSmall : (H : Type) → List (DataW H) → Bool := fun _ ds => decide (uptoBulkAll ds ≤ 1048576)
def OpenSpec.upto (s : _root_.Go.ChangeSpec) : _root_.Go.OpenSpec := { _root_.Go.OpenSpec.ofChange s with cond := some uptoSmall }

/-- 'foundrylaw22.FeatsChoose', WHERE WHAT IT READS IS OF BULK AT MOST 1048576: true; the input reads as it did. -/
def featsChooseUptoRow : OpenClaim := { program := "ytaejlopkdkaphaa", sum := "1956a7b133adb18f9feab9f3ca48651981a828d4133641ed75883c89111b74aa", func := "foundry/foundrylaw22.FeatsChoose", spec := "featsChoose", unfollowed := true, recurses := true, apart := false, narrowed := true }
def FeatsChooseUptoSaid : Prop := featsChooseUptoRow.holds Try.pinned (OpenSpec.upto featsChooseSpec)

/-- 'foundrylaw22.FeatsBytes', WHERE WHAT IT READS IS OF BULK AT MOST 1048576: true; the input reads as it did. -/
def featsBytesUptoRow : OpenClaim := { program := "ytaejlopkdkaphaa", sum := "1956a7b133adb18f9feab9f3ca48651981a828d4133641ed75883c89111b74aa", func := "foundry/foundrylaw22.FeatsBytes", spec := "featsBytes", unfollowed := true, recurses := true, apart := false, narrowed := true }
def FeatsBytesUptoSaid : Prop := featsBytesUptoRow.holds Try.pinned (OpenSpec.upto featsBytesSpec)

/-- 'foundrylaw22.FeatsBack', WHERE WHAT IT READS IS OF BULK AT MOST 1048576: true; the input reads as it did. -/
def featsBackUptoRow : OpenClaim := { program := "ytaejlopkdkaphaa", sum := "1956a7b133adb18f9feab9f3ca48651981a828d4133641ed75883c89111b74aa", func := "foundry/foundrylaw22.FeatsBack", spec := "featsBack", unfollowed := true, recurses := true, apart := false, narrowed := true }
def FeatsBackUptoSaid : Prop := featsBackUptoRow.holds Try.pinned (OpenSpec.upto featsBackSpec)

/-- 'foundrylaw22.FeatsTags', WHERE WHAT IT READS IS OF BULK AT MOST 1048576: true; the input reads as it did. -/
def featsTagsUptoRow : OpenClaim := { program := "ytaejlopkdkaphaa", sum := "1956a7b133adb18f9feab9f3ca48651981a828d4133641ed75883c89111b74aa", func := "foundry/foundrylaw22.FeatsTags", spec := "featsTags", unfollowed := true, recurses := true, apart := false, narrowed := true }
def FeatsTagsUptoSaid : Prop := featsTagsUptoRow.holds Try.pinned (OpenSpec.upto featsTagsSpec)

/-- 'foundrylaw22.FeatsConds', WHERE WHAT IT READS IS OF BULK AT MOST 1048576: true; the input reads as it did. -/
def featsCondsUptoRow : OpenClaim := { program := "ytaejlopkdkaphaa", sum := "1956a7b133adb18f9feab9f3ca48651981a828d4133641ed75883c89111b74aa", func := "foundry/foundrylaw22.FeatsConds", spec := "featsConds", unfollowed := true, recurses := true, apart := false, narrowed := true }
def FeatsCondsUptoSaid : Prop := featsCondsUptoRow.holds Try.pinned (OpenSpec.upto featsCondsSpec)

end Rows
end Go.Proofs.Ytaejlopkdkaphaa
