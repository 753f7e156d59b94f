/-
  Outlines: how the code reads bytes; step by step (plain mathematics).
  outline's source: take, u8, u16, i16: the walks.
  outline.takeStep, outline.takeFlags: the walks.
  outline.pointsOf: the walk.
-/
import Derived.Test.YtkmcodofnckdmaaGreatZS9
import Derived.Test.YtkmcodofnckdmaaGreatZS14
import Derived.Test.YtkmcodofnckdmaaGreatZS7
import Derived.Test.YtkmcodofnckdmaaGreatZS15
import Derived.Test.YtkmcodofnckdmaaGreatZS1
import Derived.Deep.CutRange
import Derived.Test.YtkmcodofnckdmaaGreatZS38
import Derived.Test.YtkmcodofnckdmaaGreatZS11
import Derived.Test.YtkmcodofnckdmaaGreatZS10
import Derived.Laws.OwnMore
set_option linter.unusedSimpArgs false
set_option linter.unusedVariables false
namespace Go.Proofs.YtkmcodofnckdmaaGreat
open Go.RowKit Go.Maps
end Go.Proofs.YtkmcodofnckdmaaGreat
