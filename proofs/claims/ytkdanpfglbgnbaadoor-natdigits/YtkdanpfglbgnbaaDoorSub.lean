/-
  nat.Sub: the walk.
-/
import Derived.Test.YtkdanpfglbgnbaaDoorAdd
namespace Go.Proofs.YtkdanpfglbgnbaaDoor
open Go.RowKit
set_option linter.unusedSimpArgs false
set_option linter.unusedVariables false

theorem u64_eq {a b : Int} (h : a = b) : Value.int .u64 a = Value.int .u64 b := by rw [h]

theorem wrap_u64_mod (n : Int) : IntKind.u64.wrap n = n % 18446744073709551616 := by simp [IntKind.wrap, IntKind.bits, IntKind.signed]

/-- One round of a subtraction. -/
theorem sub_step {zs L S : List Nat} {k cy x y t : Nat} (hz : zs.length = k) (he : V zs + V (S.take k) = V (L.take k) + 4294967296 ^ k * cy) (hx : L.getD k 0 = x) (hy : S.getD k 0 = y) (ht : t = x + 4294967296 - cy - y) (hc : cy ≤ 1) (hb : y < 4294967296) (hxb : x < 4294967296) :
    V (zs ++ [t % 4294967296]) + V (S.take (k + 1)) = V (L.take (k + 1)) + 4294967296 ^ (k + 1) * (1 - t / 4294967296) := by
  rw [V_snoc, hz, V_take_succ, V_take_succ, hx, hy, Nat.pow_succ]
  have e : t % 4294967296 + y + cy = x + 4294967296 * (1 - t / 4294967296) := by omega
  · generalize t % 4294967296 = r at e ⊢
    generalize 1 - t / 4294967296 = d at e ⊢
    generalize 4294967296 ^ k = p at he ⊢
    generalize V zs = o at he ⊢
    generalize V (L.take k) = A at he ⊢
    generalize V (S.take k) = C at he ⊢
    grind

theorem V_take_all {S : List Nat} {n : Nat} (h : V S < 4294967296 ^ n) : V (S.take n) = V S := by
  have e := V_take_drop S n
  rcases Nat.eq_zero_or_pos (V (S.drop n)) with h0 | h0
  · rw [h0] at e; omega
  · have : 4294967296 ^ n * 1 ≤ 4294967296 ^ n * V (S.drop n) := Nat.mul_le_mul_left _ h0
    omega

/-- The end of a subtraction: nothing is borrowed. -/
theorem sub_end {zs L S : List Nat} {cy : Nat} (lz : Lim zs) (hz : zs.length = L.length) (he : V zs + V (S.take L.length) = V (L.take L.length) + 4294967296 ^ L.length * cy) (lL : Lim L) (hv : V S < V L) : V zs = V L - V S := by
  have hL := V_lt lL
  rw [List.take_length, V_take_all (by omega)] at he
  have hzs := V_lt lz
  rw [hz] at hzs
  rcases Nat.eq_zero_or_pos cy with h0 | h0
  · rw [h0] at he; omega
  · have : 4294967296 ^ L.length * 1 ≤ 4294967296 ^ L.length * cy := Nat.mul_le_mul_left _ h0
    omega

theorem cmpN_le {x y : Nat} (h : x ≤ y) : cmpN x y ≤ 0 := by unfold cmpN; split <;> (try split) <;> omega
theorem cmpN_gt {x y : Nat} (h : y < x) : cmpN x y = 1 := by unfold cmpN; rw [if_neg (by omega), if_pos h]

end Go.Proofs.YtkdanpfglbgnbaaDoor
