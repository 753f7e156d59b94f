/-
  foundrylaw02.RatioRounds: the walk.
-/
import Derived.Test.YtefdkajjdaplbabDoorLawField
import Derived.Deep.Cut
namespace Go.Proofs.YtefdkajjdaplbabDoor
open Go.RowKit Classical
set_option linter.unusedSimpArgs false
set_option linter.unusedVariables false

theorem flB_of {z : Int} (h1 : -9223372036854775808 ≤ z) (h2 : z < 9223372036854775808) : flB z = true := by unfold flB; simp [h1, h2]
theorem flN_of {z : Int} (h1 : -9223372036854775808 ≤ z) (h2 : z < 9223372036854775808) : flN z = z := by unfold flN; rw [if_pos (flB_of h1 h2)]
theorem flB_bounds {z : Int} (h : flB z = true) : -9223372036854775808 ≤ z ∧ z < 9223372036854775808 := by unfold flB at h; simpa using h
theorem floor_half (z : Int) : ((z : Rat) + 1 / 2).floor = z := by
  have h1 : z ≤ ((z : Rat) + 1 / 2).floor := by rw [Rat.le_floor_iff]; grind
  have h2 : ((z : Rat) + 1 / 2).floor < z + 1 := by
    rw [Rat.floor_lt_iff]
    have : ((z + 1 : Int) : Rat) = (z : Rat) + 1 := by simp
    rw [this]; grind
  omega
theorem sgn_neg {q : Rat} (h : q < 0) : sgnQ q = -1 := by unfold sgnQ; rw [if_neg (by grind), if_pos h]
theorem sgn_pos {q : Rat} (h : 0 < q) : sgnQ q = 1 := by unfold sgnQ; rw [if_neg (by grind), if_neg (by grind)]
theorem sgn_le {q : Rat} (h : q ≤ 0) : sgnQ q ≤ 0 := by
  by_cases h0 : q = 0
  · rw [sgnQ_zero.2 h0]; decide
  · rw [sgn_neg (by grind)]; decide
theorem sgn_ge {q : Rat} (h : 0 ≤ q) : 0 ≤ sgnQ q := by
  by_cases h0 : q = 0
  · rw [sgnQ_zero.2 h0]; decide
  · rw [sgn_pos (by grind)]; decide

end Go.Proofs.YtefdkajjdaplbabDoor
