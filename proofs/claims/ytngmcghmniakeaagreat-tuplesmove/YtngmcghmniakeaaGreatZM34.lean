/-
  foundryref11.ReadPoints: the walk.
  packed.ReadPoints, packed.ReadChanges: the walks; what the laws of layer 11 ask of the code (CodP).
  tuples.putPacked, tuples.putTuple, tuples.Write: the walks.
-/
import Derived.Test.YtngmcghmniakeaaGreatZM32
import Derived.Test.YtngmcghmniakeaaGreatZM33
import Derived.Test.YtngmcghmniakeaaGreatZM16
import Derived.Test.YtngmcghmniakeaaGreatZM29
set_option linter.unusedSimpArgs false
set_option linter.unusedVariables false
namespace Go.Proofs.YtngmcghmniakeaaGreat
open Go.RowKit Go.Maps
end Go.Proofs.YtngmcghmniakeaaGreat
