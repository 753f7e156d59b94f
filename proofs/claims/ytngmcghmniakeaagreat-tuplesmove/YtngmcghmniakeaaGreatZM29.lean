/-
  Packed lists: changes and point numbers, their bytes, what bytes are read as; there and back, cut, short (plain mathematics).
  Point numbers and changes, number by number (plain mathematics).
  Tuples: their bytes; what is written is read (plain mathematics).
  One cell of a block. Nothing here is a walk.
  foundryref11.points, changes, wide, sort: the walks.
  foundrylaw04.awake; OctetsReads: the walks.
  octets.Page: Later: the walk.
-/
import Derived.Test.YtngmcghmniakeaaGreatZM28
import Derived.Test.YtngmcghmniakeaaGreatZM14
import Derived.Test.YtngmcghmniakeaaGreatZM1
import Derived.Test.YtngmcghmniakeaaGreatZM6
import Derived.Test.YtngmcghmniakeaaGreatZM7
import Derived.Deep.CutRange
import Derived.Test.YtngmcghmniakeaaGreatZM11
import Derived.WalkSpells
set_option linter.unusedSimpArgs false
set_option linter.unusedVariables false
namespace Go.Proofs.YtngmcghmniakeaaGreat
open Go.RowKit
def Cl (w : World) (g o : Nat) (v : Value) : Prop := g < w.heap.size ∧ w.cell? ⟨g, o, none⟩ = some v
theorem Cl.below {w w' : World} {g o : Nat} {v : Value} (h : Cl w g o v) (hb : Below w.heap.size w w') : Cl w' g o v := ⟨Nat.lt_of_lt_of_le h.1 hb.size, (hb.cell (p := ⟨g, o, none⟩) h.1).trans h.2⟩
open Go.Maps
end Go.Proofs.YtngmcghmniakeaaGreat
