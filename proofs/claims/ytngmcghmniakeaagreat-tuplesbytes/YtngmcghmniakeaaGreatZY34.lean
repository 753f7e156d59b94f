/-
  foundryref01.double, Mul: the walks.
  foundryref02.sum, Mul, Add, Quo, Opposite, Sub: the walks.
  foundryref02.sum, Add, Quo, Opposite, Sub: the walks.
  foundryref02.Sign, Cmp: the walks.
  foundryref02.Floor, Round, Text: the walks.
  foundryref03.Coordinate, Of14, Of16, Clamp, Field, To14, near, Between: the walks.
-/
import Derived.Test.YtngmcghmniakeaaGreatZY33
import Derived.Test.YtngmcghmniakeaaGreatZY32
import Derived.Test.YtngmcghmniakeaaGreatZY2
import Derived.Laws.BitsAllLaws
import Derived.Test.YtngmcghmniakeaaGreatZY9
import Derived.Deep.RegionHeld3
import Derived.Test.YtngmcghmniakeaaGreatZY31
set_option linter.unusedSimpArgs false
set_option linter.unusedVariables false
namespace Go.Proofs.YtngmcghmniakeaaGreat
open Go.RowKit
open Classical
end Go.Proofs.YtngmcghmniakeaaGreat
