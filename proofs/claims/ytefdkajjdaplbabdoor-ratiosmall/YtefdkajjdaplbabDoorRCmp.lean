/-
  foundryref01.Cmp: the walk.
-/
import Derived.Test.YtefdkajjdaplbabDoorCmp
namespace Go.Proofs.YtefdkajjdaplbabDoor
open Go.RowKit
set_option linter.unusedSimpArgs false
set_option linter.unusedVariables false

theorem getD_past (xs : List Nat) (j : Nat) (h : xs.length ≤ j) : xs.getD j 0 = 0 := by simp [List.getD, List.getElem?_eq_none h]

/-- A slice of limbs, its address written out where there is a limb. -/
theorem Rd.form {w : World} {a : Option Addr} {cap : Nat} {xs : List Nat} (h : Rd w a cap xs) :
    xs = [] ∨ ∃ b off, a = some ⟨b, off, none⟩ ∧ b < w.heap.size ∧ ∀ i, i < xs.length → w.cell? ⟨b, off + i, none⟩ = some (.int .u32 (xs.getD i 0 : Nat)) := h.2.2.2.2

end Go.Proofs.YtefdkajjdaplbabDoor
