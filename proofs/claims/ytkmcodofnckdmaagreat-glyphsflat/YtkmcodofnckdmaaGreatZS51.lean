/-
  outline.pointsOf: the walk.
  outline.contoursOf: the walk.
  outline.steps, outline.flagsOf: the walks.
-/
import Derived.Test.YtkmcodofnckdmaaGreatZS50
import Derived.Test.YtkmcodofnckdmaaGreatZS14
import Derived.Lib.MinMax
import Derived.Test.YtkmcodofnckdmaaGreatZS34
import Derived.Test.YtkmcodofnckdmaaGreatZS27
import Derived.Deep.CutRange
set_option linter.unusedSimpArgs false
set_option linter.unusedVariables false
namespace Go.Proofs.YtkmcodofnckdmaaGreat
open Go.RowKit Go.Maps
end Go.Proofs.YtkmcodofnckdmaaGreat
