/-
  nat.guess: the walk.
-/
import Derived.Test.YtkdanpfglbgnbaaDoorDivB
import Derived.Test.YtkdanpfglbgnbaaDoorDivM
import Derived.Outline
namespace Go.Proofs.YtkdanpfglbgnbaaDoor
open Go.RowKit
set_option linter.unusedSimpArgs false
set_option linter.unusedVariables false

theorem drewN_drewN (w : World) (a b : Nat) : (w.drewN a).drewN b = w.drewN (a + b) := by simp [World.drewN, Nat.add_assoc]

theorem guess_start {q v0 v1 u0 u1 u2 tp t0 r0 : Nat} (hq : q * (v0 + 4294967296 * v1) ≤ u0 + 4294967296 * u1 + 18446744073709551616 * u2) (htp : u2 * 4294967296 + u1 = tp) (hd : v1 * t0 + r0 = tp) (hr : r0 < v1) (hu : u0 < 4294967296) : q ≤ t0 := by
  rcases Nat.lt_or_ge t0 q with h | h
  · exfalso
    have h1 : v1 * (t0 + 1) ≤ v1 * q := Nat.mul_le_mul_left _ h
    rw [Nat.mul_add, Nat.mul_one] at h1
    have e : q * (v0 + 4294967296 * v1) = q * v0 + 4294967296 * (v1 * q) := by grind
    omega
  · exact h

theorem guess_first {v1 u1 u2 tp t0 r0 : Nat} (htp : u2 * 4294967296 + u1 = tp) (hd : v1 * t0 + r0 = tp) (hv1 : 2147483648 ≤ v1) (hu2 : u2 ≤ v1) (k1 : u1 < 4294967296) : t0 ≤ 4294967297 := by
  rcases Nat.lt_or_ge 4294967297 t0 with h | h
  · exfalso
    have h1 : v1 * 4294967298 ≤ v1 * t0 := Nat.mul_le_mul_left _ h
    omega
  · exact h

theorem guess_break {v1 u1 u2 tp t r : Nat} (htp : u2 * 4294967296 + u1 = tp) (hd : v1 * t + (r + v1) = tp) (hu2 : u2 ≤ v1) (k1 : u1 < 4294967296) (hb : 4294967296 ≤ r + v1) : t < 4294967296 := by
  rcases Nat.lt_or_ge t 4294967296 with h | h
  · exact h
  · exfalso
    have h1 : v1 * 4294967296 ≤ v1 * t := Nat.mul_le_mul_left _ h
    omega

theorem guess_small {t v0 u0 r : Nat} (ht : t < 4294967296) (hv : v0 < 4294967296) (hb : 4294967296 ≤ r) : t * v0 ≤ r * 4294967296 + u0 := by
  have := mul_lt_64 ht hv
  omega

theorem guess_fit {v0 v1 u0 u1 u2 tp t r : Nat} (htp : u2 * 4294967296 + u1 = tp) (hd : v1 * t + r = tp) (h : t * v0 ≤ r * 4294967296 + u0) : t * (v0 + 4294967296 * v1) ≤ u0 + 4294967296 * u1 + 18446744073709551616 * u2 := by
  have e : t * (v0 + 4294967296 * v1) = t * v0 + 4294967296 * (v1 * t) := by grind
  omega

theorem guess_over {v0 v1 u0 u1 u2 tp t r : Nat} (htp : u2 * 4294967296 + u1 = tp) (hd : v1 * t + r = tp) (h : r * 4294967296 + u0 < t * v0) : u0 + 4294967296 * u1 + 18446744073709551616 * u2 < t * (v0 + 4294967296 * v1) := by
  have e : t * (v0 + 4294967296 * v1) = t * v0 + 4294967296 * (v1 * t) := by grind
  omega

end Go.Proofs.YtkdanpfglbgnbaaDoor
