/-
  foundrylaw02.RatioField: the walk.
-/
import Derived.Test.YtefdkajjdaplbabDoorQ9
import Derived.Deep.Cut
namespace Go.Proofs.YtefdkajjdaplbabDoor
open Go.RowKit Classical
set_option linter.unusedSimpArgs false
set_option linter.unusedVariables false

theorem sgn_same {q r : Rat} (h : q = r) : sgnQ (q - r) = 0 := by rw [sgnQ_zero, h]; grind

end Go.Proofs.YtefdkajjdaplbabDoor
