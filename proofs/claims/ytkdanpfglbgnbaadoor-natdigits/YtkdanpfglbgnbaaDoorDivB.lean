/-
  math/bits.Len32, LeadingZeros32; nat.shiftUp, nat.shiftDown: the walks.
-/
import Derived.Test.YtkdanpfglbgnbaaDoorDivA
import Derived.Test.YtkdanpfglbgnbaaDoorMul
import Derived.Lib.BitFns
import Derived.Lib.Strings
import Derived.Lib.Walk
import Derived.Outline
namespace Go.Proofs.YtkdanpfglbgnbaaDoor
open Go.RowKit
set_option linter.unusedSimpArgs false
set_option linter.unusedVariables false

theorem wrap_u64_mod (n : Int) : IntKind.u64.wrap n = n % 18446744073709551616 := by simp [IntKind.wrap, IntKind.bits, IntKind.signed]

theorem or_shift {x p cy s : Nat} (hp : x * 2 ^ s = p) (hc : cy < 2 ^ s) (hb : p + cy < 18446744073709551616) : bits BinOp.or IntKind.u64 (p : Int) (cy : Int) = (p : Int) + (cy : Int) := by
  have h := u64_or_nat p cy (by omega) (by omega)
  have e : p ||| cy = p + cy := by
    have := Nat.shiftLeft_add_eq_or_of_lt hc x
    rw [Nat.shiftLeft_eq, hp] at this
    exact this.symm
  rw [h, e]; simp

theorem shup_step {zs xs : List Nat} {k cy x p s : Nat} (hz : zs.length = k) (he : V zs + 4294967296 ^ k * cy = V (xs.take k) * 2 ^ s) (hx : xs.getD k 0 = x) (hp : x * 2 ^ s = p) :
    V (zs ++ [(p + cy) % 4294967296]) + 4294967296 ^ (k + 1) * ((p + cy) / 4294967296) = V (xs.take (k + 1)) * 2 ^ s := by
  rw [V_snoc, hz, V_take_succ, hx, Nat.pow_succ]
  have hd := Nat.mod_add_div (p + cy) 4294967296
  generalize (p + cy) % 4294967296 = r at hd ⊢
  generalize (p + cy) / 4294967296 = d at hd ⊢
  subst hp
  generalize 4294967296 ^ k = q at he ⊢
  generalize V zs = o at he ⊢
  generalize V (xs.take k) = A at he ⊢
  generalize 2 ^ s = S at he hd ⊢
  have h1 : q * (r + 4294967296 * d) = q * (x * S + cy) := by rw [hd]
  grind

theorem bitLen_spec : ∀ (k x : Nat), x < 2 ^ k → k ≤ 64 → x ≠ 0 → 1 ≤ Lib.bitLen x ∧ 2 ^ (Lib.bitLen x - 1) ≤ x ∧ x < 2 ^ Lib.bitLen x := by
  intro k
  induction k with
  | zero => intro x h _ h0; simp at h; omega
  | succ k ih =>
    intro x h hk h0
    have hx64 : x < 2 ^ 64 := Nat.lt_of_lt_of_le h (Nat.pow_le_pow_right (by decide) hk)
    have hh := Lib.bitLen_half x h0 hx64
    by_cases h1 : x = 1
    · subst h1
      have e : Lib.bitLen 1 = 1 := by decide
      rw [e]; decide
    · obtain ⟨i1, i2, i3⟩ := ih (x / 2) (by rw [Nat.pow_succ] at h; omega) (by omega) (by omega)
      rw [hh]
      refine ⟨by omega, ?_, ?_⟩
      · rw [show 1 + Lib.bitLen (x / 2) - 1 = (Lib.bitLen (x / 2) - 1) + 1 by omega, Nat.pow_succ]; omega
      · rw [Nat.add_comm, Nat.pow_succ]; omega

/-- What LeadingZeros32 tells: so far is shifted till the topmost bit is set. -/
theorem lz_spec {x : Nat} (h0 : x ≠ 0) (h : x < 4294967296) : ∃ s : Nat, s < 32 ∧ (32 - (Lib.bitLen x : Int)) = (s : Int) ∧ 2147483648 ≤ x * 2 ^ s ∧ x * 2 ^ s < 4294967296 := by
  obtain ⟨h1, h2, h3⟩ := bitLen_spec 32 x h (by decide) h0
  have hl := Lib.bitLen_le x 32 (by decide) h
  generalize Lib.bitLen x = n at *
  refine ⟨32 - n, by omega, by omega, ?_, ?_⟩
  · have : 2 ^ (n - 1) * 2 ^ (32 - n) ≤ x * 2 ^ (32 - n) := Nat.mul_le_mul_right _ h2
    rw [← Nat.pow_add, show n - 1 + (32 - n) = 31 by omega] at this
    exact this
  · have : x * 2 ^ (32 - n) < 2 ^ n * 2 ^ (32 - n) := Nat.mul_lt_mul_of_pos_right h3 (Nat.pow_pos (by decide))
    rw [← Nat.pow_add, show n + (32 - n) = 32 by omega] at this
    exact this

theorem shdn_step {T ab x S : Nat} (s : Nat) (hs : s < 32) (hS : S = 2 ^ s) (hab : ab % S = T % S) (hx : x < 4294967296) :
    (x + 4294967296 * T) / S = (ab * 4294967296 + x) / S % 4294967296 + 4294967296 * (T / S) := by
  have hp : 0 < S := by rw [hS]; exact Nat.pow_pos (by decide)
  have hT := Nat.div_add_mod T S
  have hA := Nat.div_add_mod ab S
  have hr := Nat.mod_lt T hp
  rw [hab] at hA
  generalize T / S = q at hT ⊢
  generalize ab / S = qa at hA
  generalize T % S = r at hT hA hr
  have e1 : x + 4294967296 * T = (x + r * 4294967296) + S * (4294967296 * q) := by rw [← hT]; grind
  have e2 : ab * 4294967296 + x = (x + r * 4294967296) + S * (qa * 4294967296) := by rw [← hA]; grind
  rw [e1, e2, Nat.add_mul_div_left _ _ hp, Nat.add_mul_div_left _ _ hp, Nat.add_mul_mod_self_right]
  have hlt : (x + r * 4294967296) / S < 4294967296 := by
    refine Nat.div_lt_of_lt_mul ?_
    have h1 : (r + 1) * 4294967296 ≤ S * 4294967296 := Nat.mul_le_mul_right _ (by omega)
    omega
  rw [Nat.mod_eq_of_lt hlt]

theorem V_mod {xs : List Nat} {s S : Nat} (hs : s < 32) (hS : S = 2 ^ s) : V xs % S = xs.getD 0 0 % S := by
  rw [V_head_tail]
  have e : (4294967296 : Nat) = S * 2 ^ (32 - s) := by
    rw [hS, ← Nat.pow_add, show s + (32 - s) = 32 by omega]
  rw [e, Nat.mul_assoc, Nat.add_mul_mod_self_left]

end Go.Proofs.YtkdanpfglbgnbaaDoor
