import Derived.Test.YtkmcodofnckdmaaGreatZK33
set_option linter.unusedSimpArgs false
set_option linter.unusedVariables false
namespace Go.Proofs.YtkmcodofnckdmaaGreat
open Go.RowKit Classical
open Go.Maps
