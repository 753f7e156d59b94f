/-
  foundrylaw01.awake, few: the walks.
-/
import Derived.Test.YtiopjhoplokgkaaDoorCmp
namespace Go.Proofs.YtiopjhoplokgkaaDoor
open Go.RowKit
set_option linter.unusedSimpArgs false
set_option linter.unusedVariables false

end Go.Proofs.YtiopjhoplokgkaaDoor
