/-
  nat.addMultiple: the walk.
-/
import Derived.Test.YtkdanpfglbgnbaaDoorBlk
import Derived.Test.YtkdanpfglbgnbaaDoorSum
namespace Go.Proofs.YtkdanpfglbgnbaaDoor
open Go.RowKit
set_option linter.unusedSimpArgs false
set_option linter.unusedVariables false

theorem ret_u32 {a b : Int} (h : a = b) : Ending.returned (.int .u32 a) = .returned (.int .u32 b) := by rw [h]

end Go.Proofs.YtkdanpfglbgnbaaDoor
