/-
  (*tuples.source).tuple: the walk.
-/
import Derived.Test.YtkmcodofnckdmaaGreatZS43
import Derived.Test.YtkmcodofnckdmaaGreatZS15
import Derived.Test.YtkmcodofnckdmaaGreatZS11
set_option linter.unusedSimpArgs false
set_option linter.unusedVariables false
namespace Go.Proofs.YtkmcodofnckdmaaGreat
open Go.RowKit Go.Maps
end Go.Proofs.YtkmcodofnckdmaaGreat
