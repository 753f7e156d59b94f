/-
  packed: fieldOfPoints, fieldOfChanges, readCount: the walks.
  packed.readRuns, with fieldOfPoints: the walk.
  packed.readRuns, with fieldOfChanges: the walk.
-/
import Derived.Test.YtngmcghmniakeaaGreatZM32
import Derived.Laws.EntriesVeiled
set_option linter.unusedSimpArgs false
set_option linter.unusedVariables false
namespace Go.Proofs.YtngmcghmniakeaaGreat
open Go.RowKit Go.Maps
end Go.Proofs.YtngmcghmniakeaaGreat
