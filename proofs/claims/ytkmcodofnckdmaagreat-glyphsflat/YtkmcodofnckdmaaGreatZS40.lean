/-
  packed.eachRun, with what Points and what Changes hand over: the walks.
  What the laws of layer 11 ask of the code (CodP); foundrylaw11.awake: the walk.
  packed: differences, addUp, Points, Changes: the walks.
  foundryref11.ReadChanges: the walk.
-/
import Derived.Test.YtkmcodofnckdmaaGreatZS39
import Derived.Test.YtkmcodofnckdmaaGreatZS11
import Derived.Deep.CutRange
import Derived.Deep.CutBlock
import Derived.Lib.MinMax
import Derived.Test.YtkmcodofnckdmaaGreatZS37
import Derived.Test.YtkmcodofnckdmaaGreatZS38
import Derived.Test.YtkmcodofnckdmaaGreatZS10
import Derived.Laws.MakeOwn
set_option linter.unusedSimpArgs false
set_option linter.unusedVariables false
namespace Go.Proofs.YtkmcodofnckdmaaGreat
open Go.RowKit Go.Maps
end Go.Proofs.YtkmcodofnckdmaaGreat
