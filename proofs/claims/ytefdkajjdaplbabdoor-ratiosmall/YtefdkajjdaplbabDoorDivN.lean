/-
  The plain mathematics of one step of a long division.
-/
import Derived.Test.YtefdkajjdaplbabDoorDivM
namespace Go.Proofs.YtefdkajjdaplbabDoor
set_option linter.unusedSimpArgs false
set_option linter.unusedVariables false

theorem lt_of_mul_lt {a b P : Nat} (h : a * P < b * P) : a < b := by
  rcases Nat.lt_or_ge a b with h1 | h1
  · exact h1
  · have := Nat.mul_le_mul_right P h1; omega

/-- What is known of the topmost limbs, off the values. -/
theorem step_facts {f y : Nat → Nat} {m : Nat} (hf : ∀ i, f i < 4294967296) (hy : ∀ i, y i < 4294967296) (hv : 2147483648 ≤ y (m + 1)) (hlt : Sv f (m + 3) < 4294967296 * Sv y (m + 2)) :
    f (m + 2) ≤ y (m + 1) ∧ Sv f (m + 3) / Sv y (m + 2) < 4294967296 ∧
    (∀ t, f m + 4294967296 * f (m + 1) + 18446744073709551616 * f (m + 2) < t * (y m + 4294967296 * y (m + 1)) → Sv f (m + 3) / Sv y (m + 2) < t) ∧
    Sv f (m + 3) / Sv y (m + 2) * (y m + 4294967296 * y (m + 1)) ≤ f m + 4294967296 * f (m + 1) + 18446744073709551616 * f (m + 2) ∧
    (∀ t, t * (y m + 4294967296 * y (m + 1)) ≤ f m + 4294967296 * f (m + 1) + 18446744073709551616 * f (m + 2) → t ≤ Sv f (m + 3) / Sv y (m + 2) + 1) := by
  have eF := Sv_top3 f m
  have eY := Sv_top2 y m
  have bF := Sv_lt (f := f) (k := m) (fun i _ => hf i)
  have bY := Sv_lt (f := y) (k := m) (fun i _ => hy i)
  have hP : 0 < 4294967296 ^ m := Nat.pow_pos (by decide)
  have h0 := hf m; have h1 := hf (m + 1); have h2 := hf (m + 2); have g0 := hy m; have g1 := hy (m + 1)
  generalize Sv f (m + 3) = VL at *
  generalize Sv y (m + 2) = VB at *
  generalize Sv f m = F at *
  generalize Sv y m = Y at *
  generalize 4294967296 ^ m = P at *
  generalize f m = u0 at *
  generalize f (m + 1) = u1 at *
  generalize f (m + 2) = u2 at *
  generalize y m = v0 at *
  generalize y (m + 1) = v1 at *
  obtain ⟨W, hW⟩ : ∃ W, v0 + 4294967296 * v1 = W := ⟨_, rfl⟩
  obtain ⟨U, hU⟩ : ∃ U, u0 + 4294967296 * u1 + 18446744073709551616 * u2 = U := ⟨_, rfl⟩
  rw [hW] at eY ⊢
  rw [hU] at eF ⊢
  have hVB : 0 < VB := by
    have : P * 1 ≤ P * W := Nat.mul_le_mul_left P (by omega)
    omega
  have hq1 : VL / VB * VB ≤ VL := Nat.div_mul_le_self VL VB
  have hq2 : VL < (VL / VB + 1) * VB := by
    have := Nat.lt_div_mul_add (a := VL) hVB
    rw [Nat.add_mul, Nat.one_mul]; exact this
  have a1 : W * P ≤ VB := by rw [eY, Nat.mul_comm]; omega
  have a2 : VB < (W + 1) * P := by rw [eY, Nat.add_mul, Nat.one_mul, Nat.mul_comm]; omega
  have a3 : U * P ≤ VL := by rw [eF, Nat.mul_comm]; omega
  have a4 : VL < (U + 1) * P := by rw [eF, Nat.add_mul, Nat.one_mul, Nat.mul_comm]; omega
  have hqlt : VL / VB < 4294967296 := Nat.div_lt_of_lt_mul (by rw [Nat.mul_comm]; exact hlt)
  refine ⟨?_, hqlt, fun t ht => guess_low hP hq1 a1 a4 ht, ?_, fun t ht => guess_high hP hq2 a2 a3 ht (by omega)⟩
  · have h3 : U * P < (4294967296 * (W + 1)) * P := by
      have : 4294967296 * VB ≤ 4294967296 * ((W + 1) * P) := Nat.mul_le_mul_left _ (Nat.le_of_lt a2)
      rw [Nat.mul_assoc]; omega
    have := lt_of_mul_lt h3
    omega
  · have h4 : VL / VB * W * P < (U + 1) * P := by
      have : VL / VB * (W * P) ≤ VL / VB * VB := Nat.mul_le_mul_left _ a1
      rw [Nat.mul_assoc]; omega
    have := lt_of_mul_lt h4
    omega

/-- The guess was right. -/
theorem step_right {VL VB S0 S1 p u2 c t : Nat} (hVB : 0 < VB) (hL : VL = S0 + p * u2) (hs : S1 + VB * t = S0 + p * c) (hc : c ≤ u2) (hq : VL / VB ≤ t) : t = VL / VB ∧ S1 + p * (u2 - c) = VL % VB := by
  obtain ⟨k, rfl⟩ : ∃ k, u2 = c + k := ⟨u2 - c, by omega⟩
  rw [show c + k - c = k by omega]
  have e : VB * t + (S1 + p * k) = VL := by rw [hL, Nat.mul_add]; omega
  have ht : t ≤ VL / VB := (Nat.le_div_iff_mul_le hVB).2 (by rw [Nat.mul_comm]; omega)
  have htq : t = VL / VB := by omega
  refine ⟨htq, ?_⟩
  have := Nat.div_add_mod VL VB
  rw [← htq] at this
  omega

/-- The guess was one too great. -/
theorem step_over {VL VB S0 S1 S2 p u2 c d t : Nat} (hVB : 0 < VB) (hp : VB < p) (h1 : S1 < p) (h2 : S2 < p) (hL : VL = S0 + p * u2) (hs : S1 + VB * t = S0 + p * c) (ha : S2 + p * d = S1 + VB) (hc : u2 < c) (ht : t ≤ VL / VB + 1) :
    t = VL / VB + 1 ∧ u2 + d = c ∧ S2 = VL % VB := by
  have hpc : p * (u2 + 1) ≤ p * c := Nat.mul_le_mul_left p hc
  rw [Nat.mul_add, Nat.mul_one] at hpc
  have hgt : VL < VB * t := by omega
  have htq : VL / VB < t := (Nat.div_lt_iff_lt_mul hVB).2 (by rw [Nat.mul_comm]; exact hgt)
  have htt : t = VL / VB + 1 := by omega
  have hdm := Nat.div_add_mod VL VB
  have hr := Nat.mod_lt VL hVB
  have e : S2 + p * (u2 + d) = VL % VB + p * c := by
    rw [htt, Nat.mul_add, Nat.mul_one] at hs
    rw [Nat.mul_add]; omega
  generalize VL % VB = r at *
  have hud : u2 + d = c := by
    rcases Nat.lt_trichotomy (u2 + d) c with h | h | h
    · have := Nat.mul_le_mul_left p h
      rw [Nat.mul_succ] at this; omega
    · exact h
    · have := Nat.mul_le_mul_left p h
      rw [Nat.mul_succ] at this; omega
  refine ⟨htt, hud, ?_⟩
  rw [hud] at e; omega

end Go.Proofs.YtefdkajjdaplbabDoor
