/-
  foundrylaw01.awake, few: the walks.
-/
import Derived.Test.YtefdkajjdaplbabDoorCmp
namespace Go.Proofs.YtefdkajjdaplbabDoor
open Go.RowKit
set_option linter.unusedSimpArgs false
set_option linter.unusedVariables false

end Go.Proofs.YtefdkajjdaplbabDoor
