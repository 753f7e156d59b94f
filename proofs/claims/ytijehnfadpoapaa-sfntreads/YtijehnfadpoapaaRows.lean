/-
  No cell of these rows narrows 'for every input' (looked for: loops, veiled, ifaces, maps, wideKeys, modest, calm, conditions, laid).
  DERIVED. THE GIVEN ROWS OF THIS SEAT. 6 by the template 'for every input the law returns true; each argument reads behind the call as it read before'; 0 by the template 'total and deterministic' (their statements: YtijehnfadpoapaaTotals.lean).
  GIVEN WITH THE SEED: the statements are not yours to turn. If you find one false, say at which input.
  Laid BY PROGRAM, IN A SANDBOX (cutbox-rows.mjs): the forced cells as the released guide's own fill.sh prints them over the translation ac6c35e4bd44e7cb… (all of the seat's roots in one cut). By AI agents, Wed Nov 11 2026. No macro, syntax, notation, axiom, sorry.
-/
import Derived.Test.YtijehnfadpoapaaChecked
import GoSem.Claim
import GoSem.ClaimJoined
import GoSem.ClaimMapViews
import Derived.JoinedTies
import Derived.KernelRfl
namespace Go.Proofs.Ytijehnfadpoapaa
/- THE CELL 'sum', in the pinned program and in every row, IS THE sha256 OF THE DUMP (.gsa) THAT YtijehnfadpoapaaProg.lean LOADS. Nothing in Lean hashes anything: it is a label: what it is worth is what the hold of that sum in a sandbox is worth. -/
noncomputable def Try.pinned : Pinned := { name := "ytijehnfadpoapaa", sum := "ac6c35e4bd44e7cb0f417d364f9f8536d07046968b82c8e4b613fa3ff19bbeca", checked := Try.checked }
namespace Rows
def none {H : Type} : Left H := { results := [], args := [] }

/-- 'foundrylaw05.SfntPacks': WHATEVER THE INPUT: true; the input reads as it did. -/
def sfntPacksSpec : ChangeSpec := { name := "sfntPacks", fn := fun _ => fun
  | [d1, d2, d3] => { results := [.lit (.bool true)], args := [d1, d2, d3] }
  | _ => none }
def sfntPacksRow : OpenClaim := { program := "ytijehnfadpoapaa", sum := "ac6c35e4bd44e7cb0f417d364f9f8536d07046968b82c8e4b613fa3ff19bbeca", func := "foundry/foundrylaw05.SfntPacks", spec := "sfntPacks", inPlace := ["internal/bytealg.abigen_runtime_cmpstring"], unfollowed := true, recurses := true, apart := false }
def SfntPacksSaid : Prop := sfntPacksRow.holds Try.pinned (OpenSpec.ofChange sfntPacksSpec)

/-- ITS FALSE NEIGHBOUR: 'it returns false'. Refute it at one input. -/
def sfntPacksWrong : ChangeSpec := { name := "sfntPacks", fn := fun _ => fun
  | [d1, d2, d3] => { results := [.lit (.bool false)], args := [d1, d2, d3] }
  | _ => none }
def SfntPacksWrongFalsely : Prop := sfntPacksRow.holds Try.pinned (OpenSpec.ofChange sfntPacksWrong)

/-- 'foundrylaw05.SfntReads': WHATEVER THE INPUT: true; the input reads as it did. -/
def sfntReadsSpec : ChangeSpec := { name := "sfntReads", fn := fun _ => fun
  | [d] => { results := [.lit (.bool true)], args := [d] }
  | _ => none }
def sfntReadsRow : OpenClaim := { program := "ytijehnfadpoapaa", sum := "ac6c35e4bd44e7cb0f417d364f9f8536d07046968b82c8e4b613fa3ff19bbeca", func := "foundry/foundrylaw05.SfntReads", spec := "sfntReads", inPlace := ["internal/bytealg.abigen_runtime_cmpstring"], unfollowed := true, recurses := true, apart := false }
def SfntReadsSaid : Prop := sfntReadsRow.holds Try.pinned (OpenSpec.ofChange sfntReadsSpec)

/-- ITS FALSE NEIGHBOUR: 'it returns false'. Refute it at one input. -/
def sfntReadsWrong : ChangeSpec := { name := "sfntReads", fn := fun _ => fun
  | [d] => { results := [.lit (.bool false)], args := [d] }
  | _ => none }
def SfntReadsWrongFalsely : Prop := sfntReadsRow.holds Try.pinned (OpenSpec.ofChange sfntReadsWrong)

/-- 'foundrylaw05.SfntBack': WHATEVER THE INPUT: true; the input reads as it did. -/
def sfntBackSpec : ChangeSpec := { name := "sfntBack", fn := fun _ => fun
  | [d] => { results := [.lit (.bool true)], args := [d] }
  | _ => none }
def sfntBackRow : OpenClaim := { program := "ytijehnfadpoapaa", sum := "ac6c35e4bd44e7cb0f417d364f9f8536d07046968b82c8e4b613fa3ff19bbeca", func := "foundry/foundrylaw05.SfntBack", spec := "sfntBack", inPlace := ["internal/bytealg.abigen_runtime_cmpstring"], unfollowed := true, recurses := true, apart := false }
def SfntBackSaid : Prop := sfntBackRow.holds Try.pinned (OpenSpec.ofChange sfntBackSpec)

/-- ITS FALSE NEIGHBOUR: 'it returns false'. Refute it at one input. -/
def sfntBackWrong : ChangeSpec := { name := "sfntBack", fn := fun _ => fun
  | [d] => { results := [.lit (.bool false)], args := [d] }
  | _ => none }
def SfntBackWrongFalsely : Prop := sfntBackRow.holds Try.pinned (OpenSpec.ofChange sfntBackWrong)

/-- 'foundrylaw05.SfntOnly': WHATEVER THE INPUT: true; the input reads as it did. -/
def sfntOnlySpec : ChangeSpec := { name := "sfntOnly", fn := fun _ => fun
  | [d] => { results := [.lit (.bool true)], args := [d] }
  | _ => none }
def sfntOnlyRow : OpenClaim := { program := "ytijehnfadpoapaa", sum := "ac6c35e4bd44e7cb0f417d364f9f8536d07046968b82c8e4b613fa3ff19bbeca", func := "foundry/foundrylaw05.SfntOnly", spec := "sfntOnly", inPlace := ["internal/bytealg.abigen_runtime_cmpstring"], unfollowed := true, recurses := true, apart := false }
def SfntOnlySaid : Prop := sfntOnlyRow.holds Try.pinned (OpenSpec.ofChange sfntOnlySpec)

/-- ITS FALSE NEIGHBOUR: 'it returns false'. Refute it at one input. -/
def sfntOnlyWrong : ChangeSpec := { name := "sfntOnly", fn := fun _ => fun
  | [d] => { results := [.lit (.bool false)], args := [d] }
  | _ => none }
def SfntOnlyWrongFalsely : Prop := sfntOnlyRow.holds Try.pinned (OpenSpec.ofChange sfntOnlyWrong)

/-- 'foundrylaw05.SfntTurned': WHATEVER THE INPUT: true; the input reads as it did. -/
def sfntTurnedSpec : ChangeSpec := { name := "sfntTurned", fn := fun _ => fun
  | [d1, d2, d3] => { results := [.lit (.bool true)], args := [d1, d2, d3] }
  | _ => none }
def sfntTurnedRow : OpenClaim := { program := "ytijehnfadpoapaa", sum := "ac6c35e4bd44e7cb0f417d364f9f8536d07046968b82c8e4b613fa3ff19bbeca", func := "foundry/foundrylaw05.SfntTurned", spec := "sfntTurned", inPlace := ["internal/bytealg.abigen_runtime_cmpstring"], unfollowed := true, recurses := true, apart := false }
def SfntTurnedSaid : Prop := sfntTurnedRow.holds Try.pinned (OpenSpec.ofChange sfntTurnedSpec)

/-- ITS FALSE NEIGHBOUR: 'it returns false'. Refute it at one input. -/
def sfntTurnedWrong : ChangeSpec := { name := "sfntTurned", fn := fun _ => fun
  | [d1, d2, d3] => { results := [.lit (.bool false)], args := [d1, d2, d3] }
  | _ => none }
def SfntTurnedWrongFalsely : Prop := sfntTurnedRow.holds Try.pinned (OpenSpec.ofChange sfntTurnedWrong)

/-- 'foundrylaw05.SfntSums': WHATEVER THE INPUT: true; the input reads as it did. -/
def sfntSumsSpec : ChangeSpec := { name := "sfntSums", fn := fun _ => fun
  | [d1, d2] => { results := [.lit (.bool true)], args := [d1, d2] }
  | _ => none }
def sfntSumsRow : OpenClaim := { program := "ytijehnfadpoapaa", sum := "ac6c35e4bd44e7cb0f417d364f9f8536d07046968b82c8e4b613fa3ff19bbeca", func := "foundry/foundrylaw05.SfntSums", spec := "sfntSums", inPlace := ["internal/bytealg.abigen_runtime_cmpstring"], unfollowed := true, recurses := true, apart := false }
def SfntSumsSaid : Prop := sfntSumsRow.holds Try.pinned (OpenSpec.ofChange sfntSumsSpec)

/-- ITS FALSE NEIGHBOUR: 'it returns false'. Refute it at one input. -/
def sfntSumsWrong : ChangeSpec := { name := "sfntSums", fn := fun _ => fun
  | [d1, d2] => { results := [.lit (.bool false)], args := [d1, d2] }
  | _ => none }
def SfntSumsWrongFalsely : Prop := sfntSumsRow.holds Try.pinned (OpenSpec.ofChange sfntSumsWrong)

/- THE SECOND FORM. 'bulk': how many values and letters a reading holds, each counted each time it is reached (what is shared counts as often as it is met; a slice's spare places count too). A statement '..UptoSaid' is the law's where the arguments, and the package variables that the reading takes, are together of bulk at most 1048576: NARROWER than '..Said'. Prove '..Said' where nothing that the law and all that it calls make is longer than what came in: it says more and counts as full. Else prove '..UptoSaid'. A law counts once. -/
mutual
def uptoBulk {H : Type} : DataW H → Nat
  | .lit (.string bytes) => bytes.length + 1
  | .lit _ => 1
  | .nil => 1
  | .ptr d => uptoBulk d + 1
  | .slice elems spare => uptoBulkAll elems + uptoBulkAll spare + 1
  | .agg parts => uptoBulkAll parts + 1
  | .iface _ d => uptoBulk d + 1
  | .map entries => uptoBulkEntries entries + 1
  | .held _ => 1
def uptoBulkAll {H : Type} : List (DataW H) → Nat
  | [] => 0
  | d :: r => uptoBulk d + uptoBulkAll r
def uptoBulkEntries {H : Type} : List (Lit × DataW H) → Nat
  | [] => 0
  | x :: r => uptoBulkEntry x + uptoBulkEntries r
def uptoBulkEntry {H : Type} : Lit × DataW H → Nat
  | (.string bytes, d) => bytes.length + uptoBulk d + 1
  | (_, d) => uptoBulk d + 1
 end
def uptoSmall : (H : Type) → List (DataW H) → Bool := fun _ ds => decide (uptoBulkAll ds ≤ 1048576)
def OpenSpec.upto (s : _root_.Go.ChangeSpec) : _root_.Go.OpenSpec := { _root_.Go.OpenSpec.ofChange s with cond := some uptoSmall }

/-- 'foundrylaw05.SfntPacks', WHERE WHAT IT READS IS OF BULK AT MOST 1048576: true; the input reads as it did. -/
def sfntPacksUptoRow : OpenClaim := { program := "ytijehnfadpoapaa", sum := "ac6c35e4bd44e7cb0f417d364f9f8536d07046968b82c8e4b613fa3ff19bbeca", func := "foundry/foundrylaw05.SfntPacks", spec := "sfntPacks", inPlace := ["internal/bytealg.abigen_runtime_cmpstring"], unfollowed := true, recurses := true, apart := false, narrowed := true }
def SfntPacksUptoSaid : Prop := sfntPacksUptoRow.holds Try.pinned (OpenSpec.upto sfntPacksSpec)

/-- 'foundrylaw05.SfntReads', WHERE WHAT IT READS IS OF BULK AT MOST 1048576: true; the input reads as it did. -/
def sfntReadsUptoRow : OpenClaim := { program := "ytijehnfadpoapaa", sum := "ac6c35e4bd44e7cb0f417d364f9f8536d07046968b82c8e4b613fa3ff19bbeca", func := "foundry/foundrylaw05.SfntReads", spec := "sfntReads", inPlace := ["internal/bytealg.abigen_runtime_cmpstring"], unfollowed := true, recurses := true, apart := false, narrowed := true }
def SfntReadsUptoSaid : Prop := sfntReadsUptoRow.holds Try.pinned (OpenSpec.upto sfntReadsSpec)

/-- 'foundrylaw05.SfntBack', WHERE WHAT IT READS IS OF BULK AT MOST 1048576: true; the input reads as it did. -/
def sfntBackUptoRow : OpenClaim := { program := "ytijehnfadpoapaa", sum := "ac6c35e4bd44e7cb0f417d364f9f8536d07046968b82c8e4b613fa3ff19bbeca", func := "foundry/foundrylaw05.SfntBack", spec := "sfntBack", inPlace := ["internal/bytealg.abigen_runtime_cmpstring"], unfollowed := true, recurses := true, apart := false, narrowed := true }
def SfntBackUptoSaid : Prop := sfntBackUptoRow.holds Try.pinned (OpenSpec.upto sfntBackSpec)

/-- 'foundrylaw05.SfntOnly', WHERE WHAT IT READS IS OF BULK AT MOST 1048576: true; the input reads as it did. -/
def sfntOnlyUptoRow : OpenClaim := { program := "ytijehnfadpoapaa", sum := "ac6c35e4bd44e7cb0f417d364f9f8536d07046968b82c8e4b613fa3ff19bbeca", func := "foundry/foundrylaw05.SfntOnly", spec := "sfntOnly", inPlace := ["internal/bytealg.abigen_runtime_cmpstring"], unfollowed := true, recurses := true, apart := false, narrowed := true }
def SfntOnlyUptoSaid : Prop := sfntOnlyUptoRow.holds Try.pinned (OpenSpec.upto sfntOnlySpec)

/-- 'foundrylaw05.SfntTurned', WHERE WHAT IT READS IS OF BULK AT MOST 1048576: true; the input reads as it did. -/
def sfntTurnedUptoRow : OpenClaim := { program := "ytijehnfadpoapaa", sum := "ac6c35e4bd44e7cb0f417d364f9f8536d07046968b82c8e4b613fa3ff19bbeca", func := "foundry/foundrylaw05.SfntTurned", spec := "sfntTurned", inPlace := ["internal/bytealg.abigen_runtime_cmpstring"], unfollowed := true, recurses := true, apart := false, narrowed := true }
def SfntTurnedUptoSaid : Prop := sfntTurnedUptoRow.holds Try.pinned (OpenSpec.upto sfntTurnedSpec)

/-- 'foundrylaw05.SfntSums', WHERE WHAT IT READS IS OF BULK AT MOST 1048576: true; the input reads as it did. -/
def sfntSumsUptoRow : OpenClaim := { program := "ytijehnfadpoapaa", sum := "ac6c35e4bd44e7cb0f417d364f9f8536d07046968b82c8e4b613fa3ff19bbeca", func := "foundry/foundrylaw05.SfntSums", spec := "sfntSums", inPlace := ["internal/bytealg.abigen_runtime_cmpstring"], unfollowed := true, recurses := true, apart := false, narrowed := true }
def SfntSumsUptoSaid : Prop := sfntSumsUptoRow.holds Try.pinned (OpenSpec.upto sfntSumsSpec)

end Rows
end Go.Proofs.Ytijehnfadpoapaa
