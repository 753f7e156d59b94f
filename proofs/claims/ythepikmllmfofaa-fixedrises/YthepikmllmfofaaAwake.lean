/-
  foundrylaw01.awake, few: the walks.
-/
import Derived.Test.YthepikmllmfofaaCmp
namespace Go.Proofs.Ythepikmllmfofaa
open Go.RowKit
set_option linter.unusedSimpArgs false
set_option linter.unusedVariables false

end Go.Proofs.Ythepikmllmfofaa
