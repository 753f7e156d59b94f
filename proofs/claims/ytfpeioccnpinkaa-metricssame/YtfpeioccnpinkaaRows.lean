/-
  No cell of these rows narrows 'for every input' (looked for: loops, veiled, ifaces, maps, wideKeys, modest, calm, conditions, laid).
  DERIVED. THE GIVEN ROWS OF THIS SEAT. 4 by the template 'for every input the law returns true; each argument reads behind the call as it read before'; 0 by the template 'total and deterministic' (their statements: YtfpeioccnpinkaaTotals.lean).
  GIVEN WITH THE SEED: the statements are not yours to turn. If you find one false, say at which input.
  Laid BY PROGRAM, IN A SANDBOX (cutbox-rows.mjs): the forced cells as the released guide's own fill.sh prints them over the translation 76944286f1df697c… (all of the seat's roots in one cut). By AI agents, Wed Nov 11 2026. No macro, syntax, notation, axiom, sorry.
-/
import Derived.Test.YtfpeioccnpinkaaChecked
import GoSem.Claim
import GoSem.ClaimJoined
import GoSem.ClaimMapViews
import Derived.JoinedTies
import Derived.KernelRfl
namespace Go.Proofs.Ytfpeioccnpinkaa
/- THE CELL 'sum', in the pinned program and in every row, IS THE sha256 OF THE DUMP (.gsa) THAT YtfpeioccnpinkaaProg.lean LOADS. Nothing in Lean hashes anything: it is a label: what it is worth is what the hold of that sum in a sandbox is worth. -/
noncomputable def Try.pinned : Pinned := { name := "ytfpeioccnpinkaa", sum := "76944286f1df697c1ba2c39c2874d082c43283e35798ee6ed3e40aa5c765b340", checked := Try.checked }
namespace Rows
def none {H : Type} : Left H := { results := [], args := [] }

/-- 'foundrylaw16.MetricsTell': WHATEVER THE INPUT: true; the input reads as it did. -/
def metricsTellSpec : ChangeSpec := { name := "metricsTell", fn := fun _ => fun
  | [d1, d2, d3] => { results := [.lit (.bool true)], args := [d1, d2, d3] }
  | _ => none }
def metricsTellRow : OpenClaim := { program := "ytfpeioccnpinkaa", sum := "76944286f1df697c1ba2c39c2874d082c43283e35798ee6ed3e40aa5c765b340", func := "foundry/foundrylaw16.MetricsTell", spec := "metricsTell", recurses := true, apart := false }
def MetricsTellSaid : Prop := metricsTellRow.holds Try.pinned (OpenSpec.ofChange metricsTellSpec)

/-- ITS FALSE NEIGHBOUR: 'it returns false'. Refute it at one input. -/
def metricsTellWrong : ChangeSpec := { name := "metricsTell", fn := fun _ => fun
  | [d1, d2, d3] => { results := [.lit (.bool false)], args := [d1, d2, d3] }
  | _ => none }
def MetricsTellWrongFalsely : Prop := metricsTellRow.holds Try.pinned (OpenSpec.ofChange metricsTellWrong)

/-- 'foundrylaw16.MetricsBytes': WHATEVER THE INPUT: true; the input reads as it did. -/
def metricsBytesSpec : ChangeSpec := { name := "metricsBytes", fn := fun _ => fun
  | [d1, d2] => { results := [.lit (.bool true)], args := [d1, d2] }
  | _ => none }
def metricsBytesRow : OpenClaim := { program := "ytfpeioccnpinkaa", sum := "76944286f1df697c1ba2c39c2874d082c43283e35798ee6ed3e40aa5c765b340", func := "foundry/foundrylaw16.MetricsBytes", spec := "metricsBytes", recurses := true, apart := false }
def MetricsBytesSaid : Prop := metricsBytesRow.holds Try.pinned (OpenSpec.ofChange metricsBytesSpec)

/-- ITS FALSE NEIGHBOUR: 'it returns false'. Refute it at one input. -/
def metricsBytesWrong : ChangeSpec := { name := "metricsBytes", fn := fun _ => fun
  | [d1, d2] => { results := [.lit (.bool false)], args := [d1, d2] }
  | _ => none }
def MetricsBytesWrongFalsely : Prop := metricsBytesRow.holds Try.pinned (OpenSpec.ofChange metricsBytesWrong)

/-- 'foundrylaw16.MetricsBack': WHATEVER THE INPUT: true; the input reads as it did. -/
def metricsBackSpec : ChangeSpec := { name := "metricsBack", fn := fun _ => fun
  | [d1, d2] => { results := [.lit (.bool true)], args := [d1, d2] }
  | _ => none }
def metricsBackRow : OpenClaim := { program := "ytfpeioccnpinkaa", sum := "76944286f1df697c1ba2c39c2874d082c43283e35798ee6ed3e40aa5c765b340", func := "foundry/foundrylaw16.MetricsBack", spec := "metricsBack", recurses := true, apart := false }
def MetricsBackSaid : Prop := metricsBackRow.holds Try.pinned (OpenSpec.ofChange metricsBackSpec)

/-- ITS FALSE NEIGHBOUR: 'it returns false'. Refute it at one input. -/
def metricsBackWrong : ChangeSpec := { name := "metricsBack", fn := fun _ => fun
  | [d1, d2] => { results := [.lit (.bool false)], args := [d1, d2] }
  | _ => none }
def MetricsBackWrongFalsely : Prop := metricsBackRow.holds Try.pinned (OpenSpec.ofChange metricsBackWrong)

/-- 'foundrylaw16.MetricsSame': WHATEVER THE INPUT: true; the input reads as it did. -/
def metricsSameSpec : ChangeSpec := { name := "metricsSame", fn := fun _ => fun
  | [d1, d2] => { results := [.lit (.bool true)], args := [d1, d2] }
  | _ => none }
def metricsSameRow : OpenClaim := { program := "ytfpeioccnpinkaa", sum := "76944286f1df697c1ba2c39c2874d082c43283e35798ee6ed3e40aa5c765b340", func := "foundry/foundrylaw16.MetricsSame", spec := "metricsSame", recurses := true, apart := false }
def MetricsSameSaid : Prop := metricsSameRow.holds Try.pinned (OpenSpec.ofChange metricsSameSpec)

/-- ITS FALSE NEIGHBOUR: 'it returns false'. Refute it at one input. -/
def metricsSameWrong : ChangeSpec := { name := "metricsSame", fn := fun _ => fun
  | [d1, d2] => { results := [.lit (.bool false)], args := [d1, d2] }
  | _ => none }
def MetricsSameWrongFalsely : Prop := metricsSameRow.holds Try.pinned (OpenSpec.ofChange metricsSameWrong)

/- THE SECOND FORM. 'bulk': how many values and letters a reading holds, each counted each time it is reached (what is shared counts as often as it is met; a slice's spare places count too). A statement '..UptoSaid' is the law's where the arguments, and the package variables that the reading takes, are together of bulk at most 1048576: NARROWER than '..Said'. Prove '..Said' where nothing that the law and all that it calls make is longer than what came in: it says more and counts as full. Else prove '..UptoSaid'. A law counts once. -/
mutual
def uptoBulk {H : Type} : DataW H → Nat
  | .lit (.string bytes) => bytes.length + 1
  | .lit _ => 1
  | .nil => 1
  | .ptr d => uptoBulk d + 1
  | .slice elems spare => uptoBulkAll elems + uptoBulkAll spare + 1
  | .agg parts => uptoBulkAll parts + 1
  | .iface _ d => uptoBulk d + 1
  | .map entries => uptoBulkEntries entries + 1
  | .held _ => 1
def uptoBulkAll {H : Type} : List (DataW H) → Nat
  | [] => 0
  | d :: r => uptoBulk d + uptoBulkAll r
def uptoBulkEntries {H : Type} : List (Lit × DataW H) → Nat
  | [] => 0
  | x :: r => uptoBulkEntry x + uptoBulkEntries r
def uptoBulkEntry {H : Type} : Lit × DataW H → Nat
  | (.string bytes, d) => bytes.length + uptoBulk d + 1
  | (_, d) => uptoBulk d + 1
 end
def uptoSmall : (H : Type) → List (DataW H) → Bool := fun _ ds => decide (uptoBulkAll ds ≤ 1048576)
def OpenSpec.upto (s : _root_.Go.ChangeSpec) : _root_.Go.OpenSpec := { _root_.Go.OpenSpec.ofChange s with cond := some uptoSmall }

/-- 'foundrylaw16.MetricsTell', WHERE WHAT IT READS IS OF BULK AT MOST 1048576: true; the input reads as it did. -/
def metricsTellUptoRow : OpenClaim := { program := "ytfpeioccnpinkaa", sum := "76944286f1df697c1ba2c39c2874d082c43283e35798ee6ed3e40aa5c765b340", func := "foundry/foundrylaw16.MetricsTell", spec := "metricsTell", recurses := true, apart := false, narrowed := true }
def MetricsTellUptoSaid : Prop := metricsTellUptoRow.holds Try.pinned (OpenSpec.upto metricsTellSpec)

/-- 'foundrylaw16.MetricsBytes', WHERE WHAT IT READS IS OF BULK AT MOST 1048576: true; the input reads as it did. -/
def metricsBytesUptoRow : OpenClaim := { program := "ytfpeioccnpinkaa", sum := "76944286f1df697c1ba2c39c2874d082c43283e35798ee6ed3e40aa5c765b340", func := "foundry/foundrylaw16.MetricsBytes", spec := "metricsBytes", recurses := true, apart := false, narrowed := true }
def MetricsBytesUptoSaid : Prop := metricsBytesUptoRow.holds Try.pinned (OpenSpec.upto metricsBytesSpec)

/-- 'foundrylaw16.MetricsBack', WHERE WHAT IT READS IS OF BULK AT MOST 1048576: true; the input reads as it did. -/
def metricsBackUptoRow : OpenClaim := { program := "ytfpeioccnpinkaa", sum := "76944286f1df697c1ba2c39c2874d082c43283e35798ee6ed3e40aa5c765b340", func := "foundry/foundrylaw16.MetricsBack", spec := "metricsBack", recurses := true, apart := false, narrowed := true }
def MetricsBackUptoSaid : Prop := metricsBackUptoRow.holds Try.pinned (OpenSpec.upto metricsBackSpec)

/-- 'foundrylaw16.MetricsSame', WHERE WHAT IT READS IS OF BULK AT MOST 1048576: true; the input reads as it did. -/
def metricsSameUptoRow : OpenClaim := { program := "ytfpeioccnpinkaa", sum := "76944286f1df697c1ba2c39c2874d082c43283e35798ee6ed3e40aa5c765b340", func := "foundry/foundrylaw16.MetricsSame", spec := "metricsSame", recurses := true, apart := false, narrowed := true }
def MetricsSameUptoSaid : Prop := metricsSameUptoRow.holds Try.pinned (OpenSpec.upto metricsSameSpec)

end Rows
end Go.Proofs.Ytfpeioccnpinkaa
