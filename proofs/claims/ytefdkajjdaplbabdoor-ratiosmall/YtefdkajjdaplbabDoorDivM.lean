/-
  The plain mathematics of a guessed limb of a quotient.
-/
import Derived.Test.YtefdkajjdaplbabDoorSum
namespace Go.Proofs.YtefdkajjdaplbabDoor
set_option linter.unusedSimpArgs false
set_option linter.unusedVariables false

/-- A guess whose product with the divisor's two topmost limbs is too great is too great. -/
theorem guess_low {q t W U P VL VB : Nat} (hP : 0 < P) (hq : q * VB ≤ VL) (hB : W * P ≤ VB) (hL : VL < (U + 1) * P) (ht : U < t * W) : q < t := by
  rcases Nat.lt_or_ge q t with h | h
  · exact h
  · exfalso
    have h1 : t * (W * P) ≤ q * VB := Nat.mul_le_mul h hB
    have h2 : (U + 1) * P ≤ t * W * P := Nat.mul_le_mul_right P ht
    have h3 : t * (W * P) = t * W * P := (Nat.mul_assoc _ _ _).symm
    omega

/-- A guess that fits the three topmost limbs is at most one too great. -/
theorem guess_high {q t W U P VL VB : Nat} (hP : 0 < P) (hq : VL < (q + 1) * VB) (hB : VB < (W + 1) * P) (hL : U * P ≤ VL) (ht : t * W ≤ U) (hW : q + 1 ≤ W) : t ≤ q + 1 := by
  rcases Nat.lt_or_ge (q + 1) t with h | h
  · exfalso
    have h1 : (q + 2) * W ≤ t * W := Nat.mul_le_mul_right W h
    have h2 : (q + 2) * W * P ≤ U * P := Nat.mul_le_mul_right P (Nat.le_trans h1 ht)
    have h3 : (q + 1) * VB ≤ (q + 1) * ((W + 1) * P) := Nat.mul_le_mul_left _ (Nat.le_of_lt hB)
    have h4 : (q + 1) * ((W + 1) * P) ≤ (q + 2) * W * P := by
      have : (q + 1) * (W + 1) ≤ (q + 2) * W := by
        have e1 : (q + 1) * (W + 1) = (q + 1) * W + (q + 1) := by rw [Nat.mul_add, Nat.mul_one]
        have e2 : (q + 2) * W = (q + 1) * W + W := by rw [show q + 2 = (q + 1) + 1 by omega, Nat.add_mul (q + 1) 1 W, Nat.one_mul]
        omega
      rw [← Nat.mul_assoc]
      exact Nat.mul_le_mul_right P this
    omega
  · exact h

/-- The three topmost places. -/
theorem Sv_top3 (f : Nat → Nat) (m : Nat) : Sv f (m + 3) = Sv f m + 4294967296 ^ m * (f m + 4294967296 * f (m + 1) + 18446744073709551616 * f (m + 2)) := by
  simp only [Sv, Nat.pow_succ]
  generalize 4294967296 ^ m = p
  grind
theorem Sv_top2 (f : Nat → Nat) (m : Nat) : Sv f (m + 2) = Sv f m + 4294967296 ^ m * (f m + 4294967296 * f (m + 1)) := by
  simp only [Sv, Nat.pow_succ]
  generalize 4294967296 ^ m = p
  grind

end Go.Proofs.YtefdkajjdaplbabDoor
