/-
  (*tuples.source).tent, (*tuples.source).changes: the walks.
-/
import Derived.Test.YtkmcodofnckdmaaGreatZS42
import Derived.Test.YtkmcodofnckdmaaGreatZS14
set_option linter.unusedSimpArgs false
set_option linter.unusedVariables false
namespace Go.Proofs.YtkmcodofnckdmaaGreat
open Go.RowKit Go.Maps
end Go.Proofs.YtkmcodofnckdmaaGreat
