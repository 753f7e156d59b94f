/-
  foundrylaw01.awake, few: the walks.
-/
import Derived.Test.YtiopjhoplokgkaaGreatDoorCmp
namespace Go.Proofs.YtiopjhoplokgkaaGreatDoor
open Go.RowKit
set_option linter.unusedSimpArgs false
set_option linter.unusedVariables false

end Go.Proofs.YtiopjhoplokgkaaGreatDoor
