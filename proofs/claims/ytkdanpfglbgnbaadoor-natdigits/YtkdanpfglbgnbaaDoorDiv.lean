/-
  nat.Div: the walk.
-/
import Derived.Test.YtkdanpfglbgnbaaDoorDivE
import Derived.Test.YtkdanpfglbgnbaaDoorSub
namespace Go.Proofs.YtkdanpfglbgnbaaDoor
open Go.RowKit
set_option linter.unusedSimpArgs false
set_option linter.unusedVariables false

/-- What is left; 0, if the divisor is 0. -/
def remN (x y : Nat) : Nat := if y = 0 then 0 else x % y
theorem remN_zero (x : Nat) {y : Nat} (h : y = 0) : remN x y = 0 := by unfold remN; rw [if_pos h]
theorem remN_pos (x : Nat) {y : Nat} (h : 0 < y) : remN x y = x % y := by unfold remN; rw [if_neg (by omega)]

theorem V_one {ys : List Nat} (h : ys.length = 1) : V ys = ys.getD 0 0 := by
  match ys, h with
  | [y], _ => simp [V]

end Go.Proofs.YtkdanpfglbgnbaaDoor
