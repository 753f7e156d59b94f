/-
  packed: fieldOfPoints, fieldOfChanges, readCount: the walks.
  packed.readRuns, with fieldOfPoints: the walk.
  packed.readRuns, with fieldOfChanges: the walk.
-/
import Derived.Test.YtkmcodofnckdmaaGreatZS40
import Derived.Laws.EntriesVeiled
set_option linter.unusedSimpArgs false
set_option linter.unusedVariables false
namespace Go.Proofs.YtkmcodofnckdmaaGreat
open Go.RowKit Go.Maps
def FB (w : World) (c : Nat) (F : Value) (wd : Int) : Prop := w.heap[c]? = some (.cells #[F, .int .i64 wd] 305 (0, 0))
end Go.Proofs.YtkmcodofnckdmaaGreat
