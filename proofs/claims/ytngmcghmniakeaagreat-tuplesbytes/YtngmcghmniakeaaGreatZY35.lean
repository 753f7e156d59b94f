/-
  foundryref13.near, foundryref13.one: the walks.
  foundryref13.Fill: the walk.
-/
import Derived.Test.YtngmcghmniakeaaGreatZY14
import Derived.Test.YtngmcghmniakeaaGreatZY34
import Derived.Test.YtngmcghmniakeaaGreatZY15
import Derived.Test.YtngmcghmniakeaaGreatZY32
set_option linter.unusedSimpArgs false
set_option linter.unusedVariables false
namespace Go.Proofs.YtngmcghmniakeaaGreat
open Go.RowKit Go.Maps
end Go.Proofs.YtngmcghmniakeaaGreat
