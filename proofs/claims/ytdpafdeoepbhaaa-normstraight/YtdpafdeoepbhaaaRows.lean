/-
  No cell of these rows narrows 'for every input' (looked for: loops, veiled, ifaces, maps, wideKeys, modest, calm, conditions, laid).
  DERIVED. THE GIVEN ROWS OF THIS SEAT. 4 by the template 'for every input the law returns true; each argument reads behind the call as it read before'; 0 by the template 'total and deterministic' (their statements: YtdpafdeoepbhaaaTotals.lean).
  GIVEN WITH THE SEED: the statements are not yours to turn. If you find one false, say at which input.
  Laid BY PROGRAM, IN A SANDBOX (cutbox-rows.mjs): the forced cells as the released guide's own fill.sh prints them over the translation 4a996545ee798b8f… (all of the seat's roots in one cut). By AI agents, Wed Nov 11 2026. No macro, syntax, notation, axiom, sorry.
-/
import Derived.Test.YtdpafdeoepbhaaaChecked
import GoSem.Claim
import GoSem.ClaimJoined
import GoSem.ClaimMapViews
import Derived.JoinedTies
import Derived.KernelRfl
namespace Go.Proofs.Ytdpafdeoepbhaaa
/- THE CELL 'sum', in the pinned program and in every row, IS THE sha256 OF THE DUMP (.gsa) THAT YtdpafdeoepbhaaaProg.lean LOADS. Nothing in Lean hashes anything: it is a label: what it is worth is what the hold of that sum in a sandbox is worth. -/
noncomputable def Try.pinned : Pinned := { name := "ytdpafdeoepbhaaa", sum := "4a996545ee798b8f751476e3d022b215097075d792c3d21e04661b491907635d", checked := Try.checked }
namespace Rows
def none {H : Type} : Left H := { results := [], args := [] }

/-- 'foundrylaw08.NormUsual': WHATEVER THE INPUT: true; the input reads as it did. -/
def normUsualSpec : ChangeSpec := { name := "normUsual", fn := fun _ => fun
  | [d1, d2] => { results := [.lit (.bool true)], args := [d1, d2] }
  | _ => none }
def normUsualRow : OpenClaim := { program := "ytdpafdeoepbhaaa", sum := "4a996545ee798b8f751476e3d022b215097075d792c3d21e04661b491907635d", func := "foundry/foundrylaw08.NormUsual", spec := "normUsual", apart := false }
def NormUsualSaid : Prop := normUsualRow.holds Try.pinned (OpenSpec.ofChange normUsualSpec)

/-- ITS FALSE NEIGHBOUR: 'it returns false'. Refute it at one input. -/
def normUsualWrong : ChangeSpec := { name := "normUsual", fn := fun _ => fun
  | [d1, d2] => { results := [.lit (.bool false)], args := [d1, d2] }
  | _ => none }
def NormUsualWrongFalsely : Prop := normUsualRow.holds Try.pinned (OpenSpec.ofChange normUsualWrong)

/-- 'foundrylaw08.NormRises': WHATEVER THE INPUT: true; the input reads as it did. -/
def normRisesSpec : ChangeSpec := { name := "normRises", fn := fun _ => fun
  | [d1, d2, d3] => { results := [.lit (.bool true)], args := [d1, d2, d3] }
  | _ => none }
def normRisesRow : OpenClaim := { program := "ytdpafdeoepbhaaa", sum := "4a996545ee798b8f751476e3d022b215097075d792c3d21e04661b491907635d", func := "foundry/foundrylaw08.NormRises", spec := "normRises", apart := false }
def NormRisesSaid : Prop := normRisesRow.holds Try.pinned (OpenSpec.ofChange normRisesSpec)

/-- ITS FALSE NEIGHBOUR: 'it returns false'. Refute it at one input. -/
def normRisesWrong : ChangeSpec := { name := "normRises", fn := fun _ => fun
  | [d1, d2, d3] => { results := [.lit (.bool false)], args := [d1, d2, d3] }
  | _ => none }
def NormRisesWrongFalsely : Prop := normRisesRow.holds Try.pinned (OpenSpec.ofChange normRisesWrong)

/-- 'foundrylaw08.NormOnce': WHATEVER THE INPUT: true; the input reads as it did. -/
def normOnceSpec : ChangeSpec := { name := "normOnce", fn := fun _ => fun
  | [d1, d2, d3] => { results := [.lit (.bool true)], args := [d1, d2, d3] }
  | _ => none }
def normOnceRow : OpenClaim := { program := "ytdpafdeoepbhaaa", sum := "4a996545ee798b8f751476e3d022b215097075d792c3d21e04661b491907635d", func := "foundry/foundrylaw08.NormOnce", spec := "normOnce", apart := false }
def NormOnceSaid : Prop := normOnceRow.holds Try.pinned (OpenSpec.ofChange normOnceSpec)

/-- ITS FALSE NEIGHBOUR: 'it returns false'. Refute it at one input. -/
def normOnceWrong : ChangeSpec := { name := "normOnce", fn := fun _ => fun
  | [d1, d2, d3] => { results := [.lit (.bool false)], args := [d1, d2, d3] }
  | _ => none }
def NormOnceWrongFalsely : Prop := normOnceRow.holds Try.pinned (OpenSpec.ofChange normOnceWrong)

/-- 'foundrylaw08.NormStraight': WHATEVER THE INPUT: true; the input reads as it did. -/
def normStraightSpec : ChangeSpec := { name := "normStraight", fn := fun _ => fun
  | [d1, d2, d3] => { results := [.lit (.bool true)], args := [d1, d2, d3] }
  | _ => none }
def normStraightRow : OpenClaim := { program := "ytdpafdeoepbhaaa", sum := "4a996545ee798b8f751476e3d022b215097075d792c3d21e04661b491907635d", func := "foundry/foundrylaw08.NormStraight", spec := "normStraight", apart := false }
def NormStraightSaid : Prop := normStraightRow.holds Try.pinned (OpenSpec.ofChange normStraightSpec)

/-- ITS FALSE NEIGHBOUR: 'it returns false'. Refute it at one input. -/
def normStraightWrong : ChangeSpec := { name := "normStraight", fn := fun _ => fun
  | [d1, d2, d3] => { results := [.lit (.bool false)], args := [d1, d2, d3] }
  | _ => none }
def NormStraightWrongFalsely : Prop := normStraightRow.holds Try.pinned (OpenSpec.ofChange normStraightWrong)

/- THE SECOND FORM. 'bulk': how many values and letters a reading holds, each counted each time it is reached (what is shared counts as often as it is met; a slice's spare places count too). A statement '..UptoSaid' is the law's where the arguments, and the package variables that the reading takes, are together of bulk at most 1048576: NARROWER than '..Said'. Prove '..Said' where nothing that the law and all that it calls make is longer than what came in: it says more and counts as full. Else prove '..UptoSaid'. A law counts once. -/
mutual
def uptoBulk {H : Type} : DataW H → Nat
  | .lit (.string bytes) => bytes.length + 1
  | .lit _ => 1
  | .nil => 1
  | .ptr d => uptoBulk d + 1
  | .slice elems spare => uptoBulkAll elems + uptoBulkAll spare + 1
  | .agg parts => uptoBulkAll parts + 1
  | .iface _ d => uptoBulk d + 1
  | .map entries => uptoBulkEntries entries + 1
  | .held _ => 1
def uptoBulkAll {H : Type} : List (DataW H) → Nat
  | [] => 0
  | d :: r => uptoBulk d + uptoBulkAll r
def uptoBulkEntries {H : Type} : List (Lit × DataW H) → Nat
  | [] => 0
  | x :: r => uptoBulkEntry x + uptoBulkEntries r
def uptoBulkEntry {H : Type} : Lit × DataW H → Nat
  | (.string bytes, d) => bytes.length + uptoBulk d + 1
  | (_, d) => uptoBulk d + 1
 end
def uptoSmall : (H : Type) → List (DataW H) → Bool := fun _ ds => decide (uptoBulkAll ds ≤ 1048576)
def OpenSpec.upto (s : _root_.Go.ChangeSpec) : _root_.Go.OpenSpec := { _root_.Go.OpenSpec.ofChange s with cond := some uptoSmall }

/-- 'foundrylaw08.NormUsual', WHERE WHAT IT READS IS OF BULK AT MOST 1048576: true; the input reads as it did. -/
def normUsualUptoRow : OpenClaim := { program := "ytdpafdeoepbhaaa", sum := "4a996545ee798b8f751476e3d022b215097075d792c3d21e04661b491907635d", func := "foundry/foundrylaw08.NormUsual", spec := "normUsual", apart := false, narrowed := true }
def NormUsualUptoSaid : Prop := normUsualUptoRow.holds Try.pinned (OpenSpec.upto normUsualSpec)

/-- 'foundrylaw08.NormRises', WHERE WHAT IT READS IS OF BULK AT MOST 1048576: true; the input reads as it did. -/
def normRisesUptoRow : OpenClaim := { program := "ytdpafdeoepbhaaa", sum := "4a996545ee798b8f751476e3d022b215097075d792c3d21e04661b491907635d", func := "foundry/foundrylaw08.NormRises", spec := "normRises", apart := false, narrowed := true }
def NormRisesUptoSaid : Prop := normRisesUptoRow.holds Try.pinned (OpenSpec.upto normRisesSpec)

/-- 'foundrylaw08.NormOnce', WHERE WHAT IT READS IS OF BULK AT MOST 1048576: true; the input reads as it did. -/
def normOnceUptoRow : OpenClaim := { program := "ytdpafdeoepbhaaa", sum := "4a996545ee798b8f751476e3d022b215097075d792c3d21e04661b491907635d", func := "foundry/foundrylaw08.NormOnce", spec := "normOnce", apart := false, narrowed := true }
def NormOnceUptoSaid : Prop := normOnceUptoRow.holds Try.pinned (OpenSpec.upto normOnceSpec)

/-- 'foundrylaw08.NormStraight', WHERE WHAT IT READS IS OF BULK AT MOST 1048576: true; the input reads as it did. -/
def normStraightUptoRow : OpenClaim := { program := "ytdpafdeoepbhaaa", sum := "4a996545ee798b8f751476e3d022b215097075d792c3d21e04661b491907635d", func := "foundry/foundrylaw08.NormStraight", spec := "normStraight", apart := false, narrowed := true }
def NormStraightUptoSaid : Prop := normStraightUptoRow.holds Try.pinned (OpenSpec.upto normStraightSpec)

end Rows
end Go.Proofs.Ytdpafdeoepbhaaa
