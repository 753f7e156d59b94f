/-
  nat.Small: the walk.
-/
import Derived.Test.YtkdanpfglbgnbaaDoorDivB
namespace Go.Proofs.YtkdanpfglbgnbaaDoor
open Go.RowKit
set_option linter.unusedSimpArgs false
set_option linter.unusedVariables false

/-- The value, if it has 64 bits; else 0. -/
def smallN (v : Nat) : Nat := if v < 18446744073709551616 then v else 0
theorem smallN_lt {v : Nat} (h : v < 18446744073709551616) : smallN v = v := by unfold smallN; rw [if_pos h]
theorem smallN_ge {v : Nat} (h : ¬ v < 18446744073709551616) : smallN v = 0 := by unfold smallN; rw [if_neg h]
def isSmall (v : Nat) : Bool := decide (v < 18446744073709551616)
theorem isSmall_lt {v : Nat} (h : v < 18446744073709551616) : isSmall v = true := by simp [isSmall, h]
theorem isSmall_ge {v : Nat} (h : ¬ v < 18446744073709551616) : isSmall v = false := by simp [isSmall, h]

theorem or_zero (x : Nat) (hx : x < 4294967296) : bits BinOp.or IntKind.u64 0 (x : Int) = (x : Int) := by
  have h := u64_or_nat 0 x (by decide) (by omega)
  simpa using h
theorem or_high (n x : Nat) (hn : n < 4294967296) (hx : x < 4294967296) : bits BinOp.or IntKind.u64 (n : Int) ((x : Int) * 4294967296) = (n : Int) + (x : Int) * 4294967296 := by
  have h := u64_or_nat n (x * 4294967296) (by omega) (by omega)
  have e : n ||| x * 4294967296 = n + x * 4294967296 := by
    have := Nat.shiftLeft_add_eq_or_of_lt (show n < 2 ^ 32 by omega) x
    rw [Nat.shiftLeft_eq] at this
    rw [Nat.or_comm, Nat.add_comm]
    exact this.symm
  rw [e] at h
  have c1 : ((x * 4294967296 : Nat) : Int) = (x : Int) * 4294967296 := by simp
  rw [c1] at h
  rw [h]; simp

theorem V_two_lt {X : List Nat} (l : Lim X) (h : X.length ≤ 2) : V X < 18446744073709551616 := by
  have h1 := V_lt l
  have h2 : 4294967296 ^ X.length ≤ 4294967296 ^ 2 := Nat.pow_le_pow_right (by decide) h
  omega
theorem V_three_ge {X : List Nat} (t : Tr X) (h : 2 < X.length) : ¬ V X < 18446744073709551616 := by
  intro hv
  have := len_le_of_V t (k := 2) hv
  omega

end Go.Proofs.YtkdanpfglbgnbaaDoor
