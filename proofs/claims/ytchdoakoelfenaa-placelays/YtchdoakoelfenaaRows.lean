/-
  No cell of these rows narrows 'for every input' (looked for: loops, veiled, ifaces, maps, wideKeys, modest, calm, conditions, laid).
  DERIVED. THE GIVEN ROWS OF THIS SEAT. 4 by the template 'for every input the law returns true; each argument reads behind the call as it read before'; 0 by the template 'total and deterministic' (their statements: YtchdoakoelfenaaTotals.lean).
  GIVEN WITH THE SEED: the statements are not yours to turn. If you find one false, say at which input.
  Laid BY PROGRAM, IN A SANDBOX (cutbox-rows.mjs): the forced cells as the released guide's own fill.sh prints them over the translation bf013bea8ab51378… (all of the seat's roots in one cut). By AI agents, Wed Nov 11 2026. No macro, syntax, notation, axiom, sorry.
-/
import Derived.Test.YtchdoakoelfenaaChecked
import GoSem.Claim
import GoSem.ClaimJoined
import GoSem.ClaimMapViews
import Derived.JoinedTies
import Derived.KernelRfl
namespace Go.Proofs.Ytchdoakoelfenaa
/- THE CELL 'sum', in the pinned program and in every row, IS THE sha256 OF THE DUMP (.gsa) THAT YtchdoakoelfenaaProg.lean LOADS. Nothing in Lean hashes anything: it is a label: what it is worth is what the hold of that sum in a sandbox is worth. -/
noncomputable def Try.pinned : Pinned := { name := "ytchdoakoelfenaa", sum := "bf013bea8ab513786b3094d344d67810866bf133f55c674d9ffef204eea25364", checked := Try.checked }
namespace Rows
def none {H : Type} : Left H := { results := [], args := [] }

/-- 'foundrylaw21.PlaceLays': WHATEVER THE INPUT: true; the input reads as it did. -/
def placeLaysSpec : ChangeSpec := { name := "placeLays", fn := fun _ => fun
  | [d1, d2] => { results := [.lit (.bool true)], args := [d1, d2] }
  | _ => none }
def placeLaysRow : OpenClaim := { program := "ytchdoakoelfenaa", sum := "bf013bea8ab513786b3094d344d67810866bf133f55c674d9ffef204eea25364", func := "foundry/foundrylaw21.PlaceLays", spec := "placeLays", unfollowed := true, recurses := true, apart := false }
def PlaceLaysSaid : Prop := placeLaysRow.holds Try.pinned (OpenSpec.ofChange placeLaysSpec)

/-- ITS FALSE NEIGHBOUR: 'it returns false'. Refute it at one input. -/
def placeLaysWrong : ChangeSpec := { name := "placeLays", fn := fun _ => fun
  | [d1, d2] => { results := [.lit (.bool false)], args := [d1, d2] }
  | _ => none }
def PlaceLaysWrongFalsely : Prop := placeLaysRow.holds Try.pinned (OpenSpec.ofChange placeLaysWrong)

/-- 'foundrylaw21.PlaceKeeps': WHATEVER THE INPUT: true; the input reads as it did. -/
def placeKeepsSpec : ChangeSpec := { name := "placeKeeps", fn := fun _ => fun
  | [d1, d2, d3] => { results := [.lit (.bool true)], args := [d1, d2, d3] }
  | _ => none }
def placeKeepsRow : OpenClaim := { program := "ytchdoakoelfenaa", sum := "bf013bea8ab513786b3094d344d67810866bf133f55c674d9ffef204eea25364", func := "foundry/foundrylaw21.PlaceKeeps", spec := "placeKeeps", unfollowed := true, recurses := true, apart := false }
def PlaceKeepsSaid : Prop := placeKeepsRow.holds Try.pinned (OpenSpec.ofChange placeKeepsSpec)

/-- ITS FALSE NEIGHBOUR: 'it returns false'. Refute it at one input. -/
def placeKeepsWrong : ChangeSpec := { name := "placeKeeps", fn := fun _ => fun
  | [d1, d2, d3] => { results := [.lit (.bool false)], args := [d1, d2, d3] }
  | _ => none }
def PlaceKeepsWrongFalsely : Prop := placeKeepsRow.holds Try.pinned (OpenSpec.ofChange placeKeepsWrong)

/-- 'foundrylaw21.PlaceAdds': WHATEVER THE INPUT: true; the input reads as it did. -/
def placeAddsSpec : ChangeSpec := { name := "placeAdds", fn := fun _ => fun
  | [d1, d2, d3] => { results := [.lit (.bool true)], args := [d1, d2, d3] }
  | _ => none }
def placeAddsRow : OpenClaim := { program := "ytchdoakoelfenaa", sum := "bf013bea8ab513786b3094d344d67810866bf133f55c674d9ffef204eea25364", func := "foundry/foundrylaw21.PlaceAdds", spec := "placeAdds", unfollowed := true, recurses := true, apart := false }
def PlaceAddsSaid : Prop := placeAddsRow.holds Try.pinned (OpenSpec.ofChange placeAddsSpec)

/-- ITS FALSE NEIGHBOUR: 'it returns false'. Refute it at one input. -/
def placeAddsWrong : ChangeSpec := { name := "placeAdds", fn := fun _ => fun
  | [d1, d2, d3] => { results := [.lit (.bool false)], args := [d1, d2, d3] }
  | _ => none }
def PlaceAddsWrongFalsely : Prop := placeAddsRow.holds Try.pinned (OpenSpec.ofChange placeAddsWrong)

/-- 'foundrylaw21.PlaceAnchors': WHATEVER THE INPUT: true; the input reads as it did. -/
def placeAnchorsSpec : ChangeSpec := { name := "placeAnchors", fn := fun _ => fun
  | [d1, d2, d3] => { results := [.lit (.bool true)], args := [d1, d2, d3] }
  | _ => none }
def placeAnchorsRow : OpenClaim := { program := "ytchdoakoelfenaa", sum := "bf013bea8ab513786b3094d344d67810866bf133f55c674d9ffef204eea25364", func := "foundry/foundrylaw21.PlaceAnchors", spec := "placeAnchors", unfollowed := true, recurses := true, apart := false }
def PlaceAnchorsSaid : Prop := placeAnchorsRow.holds Try.pinned (OpenSpec.ofChange placeAnchorsSpec)

/-- ITS FALSE NEIGHBOUR: 'it returns false'. Refute it at one input. -/
def placeAnchorsWrong : ChangeSpec := { name := "placeAnchors", fn := fun _ => fun
  | [d1, d2, d3] => { results := [.lit (.bool false)], args := [d1, d2, d3] }
  | _ => none }
def PlaceAnchorsWrongFalsely : Prop := placeAnchorsRow.holds Try.pinned (OpenSpec.ofChange placeAnchorsWrong)

/- THE SECOND FORM. 'bulk': how many values and letters a reading holds, each counted each time it is reached (what is shared counts as often as it is met; a slice's spare places count too). A statement '..UptoSaid' is the law's where the arguments, and the package variables that the reading takes, are together of bulk at most 1048576: NARROWER than '..Said'. Prove '..Said' where nothing that the law and all that it calls make is longer than what came in: it says more and counts as full. Else prove '..UptoSaid'. A law counts once. -/
mutual
def uptoBulk {H : Type} : DataW H → Nat
  | .lit (.string bytes) => bytes.length + 1
  | .lit _ => 1
  | .nil => 1
  | .ptr d => uptoBulk d + 1
  | .slice elems spare => uptoBulkAll elems + uptoBulkAll spare + 1
  | .agg parts => uptoBulkAll parts + 1
  | .iface _ d => uptoBulk d + 1
  | .map entries => uptoBulkEntries entries + 1
  | .held _ => 1
def uptoBulkAll {H : Type} : List (DataW H) → Nat
  | [] => 0
  | d :: r => uptoBulk d + uptoBulkAll r
def uptoBulkEntries {H : Type} : List (Lit × DataW H) → Nat
  | [] => 0
  | x :: r => uptoBulkEntry x + uptoBulkEntries r
def uptoBulkEntry {H : Type} : Lit × DataW H → Nat
  | (.string bytes, d) => bytes.length + uptoBulk d + 1
  | (_, d) => uptoBulk d + 1
 end
def uptoSmall : (H : Type) → List (DataW H) → Bool := fun _ ds => decide (uptoBulkAll ds ≤ 1048576)
def OpenSpec.upto (s : _root_.Go.ChangeSpec) : _root_.Go.OpenSpec := { _root_.Go.OpenSpec.ofChange s with cond := some uptoSmall }

/-- 'foundrylaw21.PlaceLays', WHERE WHAT IT READS IS OF BULK AT MOST 1048576: true; the input reads as it did. -/
def placeLaysUptoRow : OpenClaim := { program := "ytchdoakoelfenaa", sum := "bf013bea8ab513786b3094d344d67810866bf133f55c674d9ffef204eea25364", func := "foundry/foundrylaw21.PlaceLays", spec := "placeLays", unfollowed := true, recurses := true, apart := false, narrowed := true }
def PlaceLaysUptoSaid : Prop := placeLaysUptoRow.holds Try.pinned (OpenSpec.upto placeLaysSpec)

/-- 'foundrylaw21.PlaceKeeps', WHERE WHAT IT READS IS OF BULK AT MOST 1048576: true; the input reads as it did. -/
def placeKeepsUptoRow : OpenClaim := { program := "ytchdoakoelfenaa", sum := "bf013bea8ab513786b3094d344d67810866bf133f55c674d9ffef204eea25364", func := "foundry/foundrylaw21.PlaceKeeps", spec := "placeKeeps", unfollowed := true, recurses := true, apart := false, narrowed := true }
def PlaceKeepsUptoSaid : Prop := placeKeepsUptoRow.holds Try.pinned (OpenSpec.upto placeKeepsSpec)

/-- 'foundrylaw21.PlaceAdds', WHERE WHAT IT READS IS OF BULK AT MOST 1048576: true; the input reads as it did. -/
def placeAddsUptoRow : OpenClaim := { program := "ytchdoakoelfenaa", sum := "bf013bea8ab513786b3094d344d67810866bf133f55c674d9ffef204eea25364", func := "foundry/foundrylaw21.PlaceAdds", spec := "placeAdds", unfollowed := true, recurses := true, apart := false, narrowed := true }
def PlaceAddsUptoSaid : Prop := placeAddsUptoRow.holds Try.pinned (OpenSpec.upto placeAddsSpec)

/-- 'foundrylaw21.PlaceAnchors', WHERE WHAT IT READS IS OF BULK AT MOST 1048576: true; the input reads as it did. -/
def placeAnchorsUptoRow : OpenClaim := { program := "ytchdoakoelfenaa", sum := "bf013bea8ab513786b3094d344d67810866bf133f55c674d9ffef204eea25364", func := "foundry/foundrylaw21.PlaceAnchors", spec := "placeAnchors", unfollowed := true, recurses := true, apart := false, narrowed := true }
def PlaceAnchorsUptoSaid : Prop := placeAnchorsUptoRow.holds Try.pinned (OpenSpec.upto placeAnchorsSpec)

end Rows
end Go.Proofs.Ytchdoakoelfenaa
