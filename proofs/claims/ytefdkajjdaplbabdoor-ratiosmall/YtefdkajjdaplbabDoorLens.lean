/-
  How long sums, differences and products are.
-/
import Derived.Test.YtefdkajjdaplbabDoorSub
import Derived.Test.YtefdkajjdaplbabDoorSum
namespace Go.Proofs.YtefdkajjdaplbabDoor
set_option linter.unusedSimpArgs false
set_option linter.unusedVariables false

theorem V_bd {xs : List Nat} {n : Nat} (l : Lim xs) (h : xs.length ≤ n) : V xs < 4294967296 ^ n :=
  Nat.lt_of_lt_of_le (V_lt l) (Nat.pow_le_pow_right (by decide) h)

theorem add_len {zs xs ys : List Nat} {n : Nat} (ht : Tr zs) (hv : V zs = V xs + V ys) (lx : Lim xs) (ly : Lim ys) (hx : xs.length ≤ n) (hy : ys.length ≤ n) : zs.length ≤ n + 1 := by
  refine len_le_of_V ht ?_
  have h1 := V_bd lx hx
  have h2 := V_bd ly hy
  rw [Nat.pow_succ]; omega

theorem mul_len {zs xs ys : List Nat} {n m : Nat} (ht : Tr zs) (hv : V zs = V xs * V ys) (lx : Lim xs) (ly : Lim ys) (hx : xs.length ≤ n) (hy : ys.length ≤ m) : zs.length ≤ n + m := by
  refine len_le_of_V ht ?_
  rw [hv, Nat.pow_add]
  exact Nat.mul_lt_mul'' (V_bd lx hx) (V_bd ly hy)

theorem sub_len {zs xs ys : List Nat} {n : Nat} (ht : Tr zs) (hv : V zs = V xs - V ys) (lx : Lim xs) (hx : xs.length ≤ n) : zs.length ≤ n := by
  refine len_le_of_V ht ?_
  have h1 := V_bd lx hx
  omega

theorem cmpN_eq {x y : Nat} (h : x = y) : cmpN x y = 0 := by subst h; simp [cmpN]

end Go.Proofs.YtefdkajjdaplbabDoor
