/-
  (*tuples.source).tuple: the walk.
-/
import Derived.Test.YtngmcghmniakeaaGreatZM35
import Derived.Test.YtngmcghmniakeaaGreatZM7
import Derived.Test.YtngmcghmniakeaaGreatZM6
set_option linter.unusedSimpArgs false
set_option linter.unusedVariables false
namespace Go.Proofs.YtngmcghmniakeaaGreat
open Go.RowKit Go.Maps
end Go.Proofs.YtngmcghmniakeaaGreat
