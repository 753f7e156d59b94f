/-
  The plain mathematics of a long division.
-/
import Derived.Test.YtefdkajjdaplbabDoorDivN
namespace Go.Proofs.YtefdkajjdaplbabDoor
set_option linter.unusedSimpArgs false
set_option linter.unusedVariables false

theorem Sv_from (f : Nat → Nat) (j n : Nat) : Sv (fun i => f (j + i)) (n + 1) = f j + 4294967296 * Sv (fun i => f (j + 1 + i)) n := by
  rw [Nat.add_comm n 1, Sv_add]
  simp only [Sv, Nat.pow_zero, Nat.one_mul, Nat.add_zero, Nat.zero_add, Nat.pow_one]
  rw [Sv_congr (f := fun i => f (j + (1 + i))) (g := fun i => f (j + 1 + i)) (fun i _ => by rw [Nat.add_assoc])]

/-- The segment that is divided next is small enough. -/
theorem long_small {f : Nat → Nat} {j n VB : Nat} (hf : f j < 4294967296) (h : Sv (fun i => f (j + 1 + i)) n < VB) : Sv (fun i => f (j + i)) (n + 1) < 4294967296 * VB := by
  rw [Sv_from]; omega

/-- What a step leaves: its topmost place is 0. -/
theorem long_top {d : Nat → Nat} {j n r VB : Nat} (h : Sv (fun i => d (j + i)) (n + 1) = r) (hr : r < VB) (hp : VB < 4294967296 ^ n) : d (j + n) = 0 ∧ Sv (fun i => d (j + i)) n = r := by
  rw [Sv] at h
  rcases Nat.eq_zero_or_pos (d (j + n)) with h0 | h0
  · rw [h0, Nat.mul_zero, Nat.add_zero] at h; exact ⟨h0, h⟩
  · have : 4294967296 ^ n * 1 ≤ 4294967296 ^ n * d (j + n) := Nat.mul_le_mul_left _ h0
    omega

/-- One round of a long division. -/
theorem long_step {c d : Nat → Nat} {j n r q Qv Qw VA VB : Nat} (hinv : Sv c (j + 1 + n) + 4294967296 ^ (j + 1) * Qv * VB = VA) (hsame : ∀ i, i < j → d i = c i) (hd : Sv (fun i => d (j + i)) n = r)
    (hdm : VB * q + r = Sv (fun i => c (j + i)) (n + 1)) (hQ : Qw = q + 4294967296 * Qv) : Sv d (j + n) + 4294967296 ^ j * Qw * VB = VA := by
  rw [show j + 1 + n = j + (n + 1) by omega, Sv_add, ← hdm, Nat.pow_succ] at hinv
  rw [Sv_add, Sv_congr hsame, hd, hQ]
  generalize 4294967296 ^ j = p at hinv ⊢
  generalize Sv c j = A at hinv ⊢
  rw [← hinv]
  grind

/-- The first segment is less than the divisor. -/
theorem long_start {f : Nat → Nat} {K n la VA VB s : Nat} (hK : K + n = la + 1) (hn : 1 ≤ n) (hv : Sv f (K + n) = VA) (hA : VA < 4294967296 ^ la * 2 ^ s) (hB : 2 ^ s * 4294967296 ^ (n - 1) ≤ VB) : Sv (fun i => f (K + i)) n < VB := by
  rcases Nat.lt_or_ge (Sv (fun i => f (K + i)) n) VB with h | h
  · exact h
  · exfalso
    rw [Sv_add] at hv
    have h1 : 4294967296 ^ K * (2 ^ s * 4294967296 ^ (n - 1)) ≤ 4294967296 ^ K * Sv (fun i => f (K + i)) n := Nat.mul_le_mul_left _ (Nat.le_trans hB h)
    have h2 : 4294967296 ^ la = 4294967296 ^ K * 4294967296 ^ (n - 1) := by rw [← Nat.pow_add, show K + (n - 1) = la by omega]
    have h3 : 4294967296 ^ K * (2 ^ s * 4294967296 ^ (n - 1)) = 4294967296 ^ la * 2 ^ s := by
      rw [h2]
      generalize 4294967296 ^ K = a
      generalize 4294967296 ^ (n - 1) = b
      generalize 2 ^ s = c
      grind
    omega

/-- The end of a long division. -/
theorem long_end {R Q A B S : Nat} (hS : 0 < S) (h : R + Q * (B * S) = A * S) (hr : R < B * S) : Q = A / B ∧ R / S = A % B := by
  have hB : 0 < B * S := by omega
  have e1 : A * S / (B * S) = Q := by
    rw [← h, Nat.add_mul_div_right _ _ hB, Nat.div_eq_of_lt hr, Nat.zero_add]
  have e2 : A * S % (B * S) = R := by
    rw [← h, Nat.add_mul_mod_self_right, Nat.mod_eq_of_lt hr]
  rw [Nat.mul_div_mul_right _ _ hS] at e1
  rw [Nat.mul_mod_mul_right] at e2
  exact ⟨e1.symm, by rw [← e2, Nat.mul_div_cancel _ hS]⟩

/-- The shifted divisor: as many limbs as before, the topmost bit set. -/
theorem long_by {ys bs : List Nat} {n s x : Nat} (ly : Lim ys) (lb : Lim bs) (tb : Tr bs) (hn : ys.length = n) (hn1 : 1 ≤ n) (hx : ys.getD (n - 1) 0 = x) (hs : s < 32) (h1 : 2147483648 ≤ x * 2 ^ s) (h2 : x * 2 ^ s < 4294967296) (hv : V bs = V ys * 2 ^ s) :
    bs.length = n ∧ 2147483648 ≤ bs.getD (n - 1) 0 ∧ 2147483648 * 4294967296 ^ (n - 1) ≤ V bs := by
  have eY := V_take_succ ys (n - 1)
  rw [show n - 1 + 1 = ys.length by omega, List.take_length, hx] at eY
  have bY : V (ys.take (n - 1)) < 4294967296 ^ (n - 1) := by rw [V_take_Sv]; exact Sv_lt (fun i _ => ly.getD _)
  have hmul : (x + 1) * 2 ^ s ≤ 4294967296 := by
    have e32 : (4294967296 : Nat) = 2 ^ (32 - s) * 2 ^ s := by rw [← Nat.pow_add, show 32 - s + s = 32 by omega]
    have h3 : x * 2 ^ s < 2 ^ (32 - s) * 2 ^ s := by rw [← e32]; exact h2
    have h4 := lt_of_mul_lt h3
    calc (x + 1) * 2 ^ s ≤ 2 ^ (32 - s) * 2 ^ s := Nat.mul_le_mul_right _ h4
      _ = 4294967296 := e32.symm
  have hpw : 4294967296 ^ n = 4294967296 ^ (n - 1) * 4294967296 := by rw [← Nat.pow_succ]; congr 1; omega
  have hP : 0 < 4294967296 ^ (n - 1) := Nat.pow_pos (by decide)
  have hS : 0 < 2 ^ s := Nat.pow_pos (by decide)
  have up : V bs < 4294967296 ^ n := by
    rw [hv, hpw]
    have h5 : V ys < 4294967296 ^ (n - 1) * (x + 1) := by rw [eY, Nat.mul_add, Nat.mul_one]; omega
    calc V ys * 2 ^ s < 4294967296 ^ (n - 1) * (x + 1) * 2 ^ s := Nat.mul_lt_mul_of_pos_right h5 hS
      _ = 4294967296 ^ (n - 1) * ((x + 1) * 2 ^ s) := Nat.mul_assoc _ _ _
      _ ≤ 4294967296 ^ (n - 1) * 4294967296 := Nat.mul_le_mul_left _ hmul
  have low : 2147483648 * 4294967296 ^ (n - 1) ≤ V bs := by
    rw [hv]
    have h6 : 4294967296 ^ (n - 1) * x ≤ V ys := by omega
    calc 2147483648 * 4294967296 ^ (n - 1) ≤ x * 2 ^ s * 4294967296 ^ (n - 1) := Nat.mul_le_mul_right _ h1
      _ = 4294967296 ^ (n - 1) * x * 2 ^ s := by
        generalize 4294967296 ^ (n - 1) = a
        generalize 2 ^ s = c
        grind
      _ ≤ V ys * 2 ^ s := Nat.mul_le_mul_right _ h6
  have hl1 := len_le_of_V tb up
  have hl2 : n ≤ bs.length := by
    rcases Nat.lt_or_ge bs.length n with h | h
    · exfalso
      have h7 := V_lt lb
      have h8 : 4294967296 ^ bs.length ≤ 4294967296 ^ (n - 1) := Nat.pow_le_pow_right (by decide) (by omega)
      omega
    · exact h
  have hl : bs.length = n := by omega
  refine ⟨hl, ?_, low⟩
  have eB := V_take_succ bs (n - 1)
  rw [show n - 1 + 1 = bs.length by omega, List.take_length] at eB
  have bB : V (bs.take (n - 1)) < 4294967296 ^ (n - 1) := by rw [V_take_Sv]; exact Sv_lt (fun i _ => lb.getD _)
  rcases Nat.lt_or_ge (bs.getD (n - 1) 0) 2147483648 with h | h
  · exfalso
    have h9 : 4294967296 ^ (n - 1) * bs.getD (n - 1) 0 ≤ 4294967296 ^ (n - 1) * 2147483647 := Nat.mul_le_mul_left _ (by omega)
    omega
  · exact h

end Go.Proofs.YtefdkajjdaplbabDoor
