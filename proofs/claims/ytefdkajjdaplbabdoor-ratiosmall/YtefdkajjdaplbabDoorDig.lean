/-
  The plain mathematics of decimal digits, in groups of nine.
-/
import Derived.Test.YtefdkajjdaplbabDoorPlain
import Derived.Lib.ItoaNum
namespace Go.Proofs.YtefdkajjdaplbabDoor
open Go.Lib
set_option linter.unusedSimpArgs false
set_option linter.unusedVariables false

theorem dec_big {u : Nat} (h : ¬ u < 10) : decDigits u = decDigits (u / 10) ++ [UInt8.ofNat (48 + u % 10)] := by rw [decDigits, dif_neg h]

/-- The last k digits, zeros ahead. -/
def padD : Nat → Nat → List UInt8
  | 0, _ => []
  | k + 1, u => padD k (u / 10) ++ [UInt8.ofNat (48 + u % 10)]

theorem padD_zero (k : Nat) : padD k 0 = List.replicate k 48 := by
  induction k with
  | zero => rfl
  | succ k ih => rw [padD, Nat.zero_div, ih, List.replicate_succ']; rfl

theorem dec_pad : ∀ (k q r : Nat), 1 ≤ q → r < 10 ^ k → decDigits (q * 10 ^ k + r) = decDigits q ++ padD k r := by
  intro k
  induction k with
  | zero =>
    intro q r hq hr
    simp at hr
    subst hr
    simp [padD]
  | succ k ih =>
    intro q r hq hr
    rw [Nat.pow_succ] at hr
    have hp : 1 ≤ 10 ^ k := Nat.pow_pos (by decide)
    have hge : 10 ≤ q * 10 ^ (k + 1) + r := by
      have h1 : 1 * 10 ^ (k + 1) ≤ q * 10 ^ (k + 1) := Nat.mul_le_mul_right _ hq
      rw [Nat.pow_succ] at h1 ⊢
      omega
    have e : q * 10 ^ (k + 1) + r = 10 * (q * 10 ^ k) + r := by rw [Nat.pow_succ]; generalize 10 ^ k = p; grind
    rw [dec_big (by omega), e, Nat.mul_add_div (by decide), Nat.mul_add_mod, ih q (r / 10) hq (by omega), padD, List.append_assoc]

theorem pad_dec : ∀ (k r : Nat), 1 ≤ k → r < 10 ^ k → padD k r = List.replicate (k - nDigits r) 48 ++ decDigits r ∧ nDigits r ≤ k := by
  intro k
  induction k with
  | zero => intro r h; omega
  | succ k ih =>
    intro r _ hr
    by_cases h : r < 10
    · rw [padD, Nat.div_eq_of_lt h, padD_zero, nDigits_small h, Nat.mod_eq_of_lt h, decDigits_one h]
      exact ⟨by simp, by omega⟩
    · have hk : 1 ≤ k := by
        rcases Nat.eq_zero_or_pos k with h0 | h0
        · subst h0; simp at hr; omega
        · exact h0
      rw [Nat.pow_succ] at hr
      obtain ⟨h1, h2⟩ := ih (r / 10) hk (by omega)
      rw [padD, h1, nDigits_big h, dec_big h, List.append_assoc, show k + 1 - (nDigits (r / 10) + 1) = k - nDigits (r / 10) by omega]
      exact ⟨rfl, by omega⟩

/-- The value of groups of nine digits, the least significant first. -/
def G : List Nat → Nat
  | [] => 0
  | x :: xs => x + 1000000000 * G xs

theorem G_drop (gs : List Nat) (k : Nat) : G (gs.drop k) = gs.getD k 0 + 1000000000 * G (gs.drop (k + 1)) := by
  induction gs generalizing k with
  | nil => simp [G]
  | cons x xs ih =>
    cases k with
    | zero => simp [G]
    | succ k => simpa using ih k

theorem G_snoc (gs : List Nat) (x : Nat) : G (gs ++ [x]) = G gs + 1000000000 ^ gs.length * x := by
  induction gs with
  | nil => simp [G]
  | cons y ys ih => rw [List.cons_append, G, ih, G, List.length_cons, Nat.pow_succ]; generalize 1000000000 ^ ys.length = p; grind

/-- One more group behind those that are written. -/
theorem group_step {q g : Nat} (hq : 1 ≤ q) (hg : g < 1000000000) : decDigits (g + 1000000000 * q) = decDigits q ++ (List.replicate (9 - nDigits g) 48 ++ decDigits g) := by
  have h1 := dec_pad 9 q g hq hg
  have h2 := (pad_dec 9 g (by decide) hg).1
  rw [← h2, ← h1]
  congr 1
  omega

end Go.Proofs.YtefdkajjdaplbabDoor
