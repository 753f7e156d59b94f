import Derived.Test.YtkmcodofnckdmaaGreatZS30
import Derived.Deep.OwnRows
import Derived.Lib.AppendStr
set_option linter.unusedSimpArgs false
set_option linter.unusedVariables false
namespace Go.Proofs.YtkmcodofnckdmaaGreat
open Go.RowKit Go.Maps
