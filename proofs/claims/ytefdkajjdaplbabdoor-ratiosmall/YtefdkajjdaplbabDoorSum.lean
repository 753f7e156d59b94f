/-
  Values by places: the sum of f i times 2^(32 i), for the products and quotients that are reckoned in place.
-/
import Derived.Test.YtefdkajjdaplbabDoorPlain
namespace Go.Proofs.YtefdkajjdaplbabDoor
set_option linter.unusedSimpArgs false
set_option linter.unusedVariables false

/-- The sum over the first k places. -/
def Sv (f : Nat → Nat) : Nat → Nat
  | 0 => 0
  | k + 1 => Sv f k + 4294967296 ^ k * f k

theorem Sv_congr {f g : Nat → Nat} {k : Nat} (h : ∀ i, i < k → f i = g i) : Sv f k = Sv g k := by
  induction k with
  | zero => rfl
  | succ k ih => rw [Sv, Sv, ih (fun i hi => h i (by omega)), h k (by omega)]

theorem Sv_add (f : Nat → Nat) (m n : Nat) : Sv f (m + n) = Sv f m + 4294967296 ^ m * Sv (fun i => f (m + i)) n := by
  induction n with
  | zero => simp [Sv]
  | succ n ih => rw [← Nat.add_assoc, Sv, ih, Sv, Nat.pow_add, Nat.mul_add, ← Nat.add_assoc, Nat.mul_assoc]

theorem Sv_lt {f : Nat → Nat} {k : Nat} (h : ∀ i, i < k → f i < 4294967296) : Sv f k < 4294967296 ^ k := by
  induction k with
  | zero => simp [Sv]
  | succ k ih =>
    have h1 := ih (fun i hi => h i (by omega))
    have h2 := h k (by omega)
    have h3 : 4294967296 ^ k * f k ≤ 4294967296 ^ k * 4294967295 := Nat.mul_le_mul_left _ (by omega)
    rw [Sv, Nat.pow_succ]; omega

theorem Sv_zero {f : Nat → Nat} {k : Nat} (h : ∀ i, i < k → f i = 0) : Sv f k = 0 := by
  induction k with
  | zero => rfl
  | succ k ih => rw [Sv, ih (fun i hi => h i (by omega)), h k (by omega)]; simp

theorem V_take_Sv (xs : List Nat) (k : Nat) : V (xs.take k) = Sv (fun i => xs.getD i 0) k := by
  induction k with
  | zero => simp [V, Sv]
  | succ k ih => rw [V_take_succ, ih, Sv]

theorem V_Sv (xs : List Nat) : V xs = Sv (fun i => xs.getD i 0) xs.length := by rw [← V_take_Sv, List.take_length]

theorem getD_set (xs : List Nat) (i j z : Nat) : (xs.set i z).getD j 0 = if i = j ∧ j < xs.length then z else xs.getD j 0 := by
  simp only [List.getD_eq_getElem?_getD, List.getElem?_set]
  by_cases h : i = j
  · subst h
    by_cases h2 : i < xs.length
    · simp [h2]
    · simp [h2]
  · simp [h]
theorem getD_set_ne (xs : List Nat) (i j z : Nat) (h : i ≠ j) : (xs.set i z).getD j 0 = xs.getD j 0 := by rw [getD_set, if_neg (by omega)]
theorem getD_set_eq (xs : List Nat) (i z : Nat) (h : i < xs.length) : (xs.set i z).getD i 0 = z := by rw [getD_set, if_pos ⟨rfl, h⟩]

/-- One round of 'out += b * f'. -/
theorem addm_step {cs zs ys : List Nat} {off k cy f y o s p : Nat} (hy : ys.getD k 0 = y) (hp : y * f = p) (ho : zs.getD (off + k) 0 = o) (hs : s = p + o + cy) (hlen : off + k < cs.length)
    (he : Sv (fun i => cs.getD (off + i) 0) k + 4294967296 ^ k * cy = Sv (fun i => zs.getD (off + i) 0) k + V (ys.take k) * f) :
    Sv (fun i => (cs.set (off + k) (s % 4294967296)).getD (off + i) 0) (k + 1) + 4294967296 ^ (k + 1) * (s / 4294967296) = Sv (fun i => zs.getD (off + i) 0) (k + 1) + V (ys.take (k + 1)) * f := by
  rw [Sv, Sv, V_take_succ, hy, ho, getD_set_eq _ _ _ hlen, Nat.pow_succ]
  rw [Sv_congr (g := fun i => cs.getD (off + i) 0) (fun i hi => getD_set_ne _ _ _ _ (by omega))]
  have hd := Nat.mod_add_div s 4294967296
  generalize s % 4294967296 = r at hd ⊢
  generalize s / 4294967296 = d at hd ⊢
  subst hs
  subst hp
  generalize 4294967296 ^ k = q at he ⊢
  generalize Sv (fun i => cs.getD (off + i) 0) k = A at he ⊢
  generalize Sv (fun i => zs.getD (off + i) 0) k = C at he ⊢
  generalize V (ys.take k) = D at he ⊢
  grind

theorem mul_lt_64 {y f : Nat} (hy : y < 4294967296) (hf : f < 4294967296) : y * f ≤ 18446744065119617025 := by
  have := Nat.mul_le_mul (show y ≤ 4294967295 by omega) (show f ≤ 4294967295 by omega)
  simpa using this

end Go.Proofs.YtefdkajjdaplbabDoor
