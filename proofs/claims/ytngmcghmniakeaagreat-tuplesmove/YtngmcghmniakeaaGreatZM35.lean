/-
  (*tuples.source).tent, (*tuples.source).changes: the walks.
-/
import Derived.Test.YtngmcghmniakeaaGreatZM34
import Derived.Test.YtngmcghmniakeaaGreatZM20
set_option linter.unusedSimpArgs false
set_option linter.unusedVariables false
namespace Go.Proofs.YtngmcghmniakeaaGreat
open Go.RowKit Go.Maps
end Go.Proofs.YtngmcghmniakeaaGreat
