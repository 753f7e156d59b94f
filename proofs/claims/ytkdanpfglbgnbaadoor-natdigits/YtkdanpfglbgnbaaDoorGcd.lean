/-
  nat.gcdSmall, nat.Gcd: the walks.
-/
import Derived.Test.YtkdanpfglbgnbaaDoorSmall
import Derived.Test.YtkdanpfglbgnbaaDoorDiv
import Derived.Deep.LoopGhost
namespace Go.Proofs.YtkdanpfglbgnbaaDoor
open Go.RowKit
set_option linter.unusedSimpArgs false
set_option linter.unusedVariables false

theorem gcd_step (x y : Nat) : Nat.gcd y (x % y) = Nat.gcd x y := by
  rw [Nat.gcd_comm x y, Nat.gcd_rec y x, Nat.gcd_comm]

theorem ret_u64 {a b : Int} (h : a = b) : Ending.returned (.int .u64 a) = .returned (.int .u64 b) := by rw [h]

end Go.Proofs.YtkdanpfglbgnbaaDoor
