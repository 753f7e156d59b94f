/-
  foundryref11.ReadPoints: the walk.
  packed.ReadPoints, packed.ReadChanges: the walks; what the laws of layer 11 ask of the code (CodP).
  tuples.putPacked, tuples.putTuple, tuples.Write: the walks.
-/
import Derived.Test.YtkmcodofnckdmaaGreatZS40
import Derived.Test.YtkmcodofnckdmaaGreatZS41
import Derived.Test.YtkmcodofnckdmaaGreatZS18
import Derived.Test.YtkmcodofnckdmaaGreatZS26
set_option linter.unusedSimpArgs false
set_option linter.unusedVariables false
namespace Go.Proofs.YtkmcodofnckdmaaGreat
open Go.RowKit Go.Maps
end Go.Proofs.YtkmcodofnckdmaaGreat
