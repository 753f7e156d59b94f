/-
  outline.putSteps, outline.putParts, outline.putFlags: the walks.
  outline.Write: the walk.
  bytes.Equal: the walk.
-/
import Derived.Test.YtkmcodofnckdmaaGreatZS10
import Derived.Test.YtkmcodofnckdmaaGreatZS38
import Derived.Test.YtkmcodofnckdmaaGreatZS11
import Derived.Deep.CutRange
import Derived.Deep.CutBlock
import Derived.Lib.MinMax
import Derived.Test.YtkmcodofnckdmaaGreatZS51
import Derived.Test.YtkmcodofnckdmaaGreatZS8
import Derived.Laws.Cover1
set_option linter.unusedSimpArgs false
set_option linter.unusedVariables false
namespace Go.Proofs.YtkmcodofnckdmaaGreat
open Go.RowKit Go.Maps
end Go.Proofs.YtkmcodofnckdmaaGreat
