import Derived.Test.YtkmcodofnckdmaaGreatZK32
set_option linter.unusedSimpArgs false
set_option linter.unusedVariables false
namespace Go.Proofs.YtkmcodofnckdmaaGreat
open Go.RowKit
open Classical
