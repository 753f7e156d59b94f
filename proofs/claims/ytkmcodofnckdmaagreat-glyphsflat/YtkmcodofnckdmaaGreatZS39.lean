/-
  foundryref11.Changes: the walk.
  packed: arePoints, areChanges, kindOfDifference, kindOfChange, signedByte, nought: the walks.
  packed: putAll (of bytes, of two bytes), putCount, what Points and Changes hand over: the walks.
-/
import Derived.Test.YtkmcodofnckdmaaGreatZS37
import Derived.Test.YtkmcodofnckdmaaGreatZS38
import Derived.Deep.CutRange
import Derived.Deep.CutBlock
set_option linter.unusedSimpArgs false
set_option linter.unusedVariables false
namespace Go.Proofs.YtkmcodofnckdmaaGreat
open Go.RowKit Go.Maps
end Go.Proofs.YtkmcodofnckdmaaGreat
