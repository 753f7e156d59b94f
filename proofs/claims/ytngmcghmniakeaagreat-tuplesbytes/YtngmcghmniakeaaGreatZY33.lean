/-
  foundryref01.Sub: the walk.
  foundryref01.Div: the walk.
  foundryref01.Small, Gcd: the walks.
  foundryref01.Of: the walk.
  foundryref01.Add: the walk.
  foundryref02.one, Zero, Formed, fair, Low, size, Whole, Make: the walks.
  foundryref02.fair, Low, size, Whole, Make: the walks.
-/
import Derived.Test.YtngmcghmniakeaaGreatZY3
import Derived.Test.YtngmcghmniakeaaGreatZY32
import Derived.Test.YtngmcghmniakeaaGreatZY4
import Derived.Outline
import Derived.Test.YtngmcghmniakeaaGreatZY1
import Derived.Test.YtngmcghmniakeaaGreatZY2
import Derived.Laws.BitsAllLaws
import Derived.Test.YtngmcghmniakeaaGreatZY5
set_option linter.unusedSimpArgs false
set_option linter.unusedVariables false
namespace Go.Proofs.YtngmcghmniakeaaGreat
open Go.RowKit
open Classical
end Go.Proofs.YtngmcghmniakeaaGreat
