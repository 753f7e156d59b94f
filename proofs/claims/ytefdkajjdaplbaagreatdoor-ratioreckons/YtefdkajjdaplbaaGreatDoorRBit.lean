/-
  foundryref01.Bit, bits: the walks.
-/
import Derived.Test.YtefdkajjdaplbaaGreatDoorRTrim
import Derived.Test.YtefdkajjdaplbaaGreatDoorMul
import Derived.Laws.BitsAllLaws
namespace Go.Proofs.YtefdkajjdaplbaaGreatDoor
open Go.RowKit
set_option linter.unusedSimpArgs false
set_option linter.unusedVariables false

theorem and_one_u32 (n : Nat) (h : n < 4294967296) : bits BinOp.and IntKind.u32 (n : Int) 1 = ((n % 2 : Nat) : Int) := by
  have := u32_and_nat n 1 h (by decide)
  rw [Nat.and_one_is_mod] at this
  exact this

/-- A bit of a number is a bit of one of its limbs. -/
theorem V_bit (xs : List Nat) (lm : Lim xs) (i : Nat) : V xs / 2 ^ i % 2 = xs.getD (i / 32) 0 / 2 ^ (i % 32) % 2 := by
  have e := V_take_drop xs (i / 32)
  have hd := V_head_tail (xs.drop (i / 32))
  have hg : (xs.drop (i / 32)).getD 0 0 = xs.getD (i / 32) 0 := by simp [List.getD]
  rw [hg] at hd
  have hl : V (xs.take (i / 32)) < 4294967296 ^ (i / 32) := by
    have := V_take_Sv xs (i / 32)
    rw [this]
    exact Sv_lt (fun j _ => lm.getD j)
  have hp : 2 ^ i = 4294967296 ^ (i / 32) * 2 ^ (i % 32) := by
    rw [show (4294967296 : Nat) = 2 ^ 32 from rfl, ← Nat.pow_mul, ← Nat.pow_add, Nat.div_add_mod]
  rw [hp, ← Nat.div_div_eq_div_mul, e, Nat.add_mul_div_left _ _ (Nat.pow_pos (by decide)), Nat.div_eq_of_lt hl, Nat.zero_add, hd]
  generalize V (xs.drop (i / 32)).tail = T
  generalize xs.getD (i / 32) 0 = x
  have h32 : (4294967296 : Nat) = 2 ^ (i % 32) * (2 * 2 ^ (31 - i % 32)) := by
    have : (4294967296 : Nat) = 2 ^ 32 := rfl
    rw [this, ← Nat.pow_succ', ← Nat.pow_add]
    congr 1
    omega
  rw [h32, Nat.mul_assoc, Nat.add_mul_div_left _ _ (Nat.pow_pos (by decide)), Nat.mul_assoc, Nat.add_mul_mod_self_left]

set_option maxHeartbeats 400000 in
set_option maxRecDepth 100000 in
theorem rbits_any (a : Option Addr) (n cap : Nat) (w : World) (hn : n ≤ 100000000000000000) :
    Calls Tryz.prog 63 #[.slice a n cap] w fun e w' => e = .returned (.int .i64 (32 * (n : Int))) ∧ w = w' := by
  go_enter Tryz.func63, Tryz.ntmps63
  go_wp2
  go_ret
  exact ⟨rfl, rfl⟩

set_option maxHeartbeats 400000 in
set_option maxRecDepth 100000 in
theorem rbit_any (a : Option Addr) (cap : Nat) (xs : List Nat) (i : Nat) (w : World) (h : Rd w a cap xs) (hi : i ≤ 100000000000000000) :
    Calls Tryz.prog 65 #[.slice a xs.length cap, .int .i64 (i : Int)] w fun e w' => e = .returned (.int .u32 ((V xs / 2 ^ i % 2 : Nat) : Int)) ∧ w = w' := by
  have k1 := h.le
  have k2 := h.cap
  unfold maxLen at k2
  have fm := h.fm
  have lm := h.lim
  clear h
  by_cases hlt : i / 32 < xs.length
  · obtain ⟨b, off, rfl, _, hc⟩ := fm.at (Below.refl _ _) (i / 32) hlt
    obtain ⟨x, hx⟩ : ∃ x, xs.getD (i / 32) 0 = x := ⟨_, rfl⟩
    rw [hx] at hc
    have bx : x < 4294967296 := by rw [← hx]; exact lm.getD _
    go_enter Tryz.func65, Tryz.ntmps65
    go_wp2
    go_ret
    refine ⟨ret_u32 ?_, rfl⟩
    have hq : x / 2 ^ (i % 32) ≤ x := Nat.div_le_self _ _
    have hcast : (x : Int) / 2 ^ (i % 32) = ((x / 2 ^ (i % 32) : Nat) : Int) := by simp
    rw [V_bit xs lm i, hx, hcast, and_one_u32 _ (by omega)]
  · go_enter Tryz.func65, Tryz.ntmps65
    go_wp2
    go_ret
    refine ⟨ret_u32 ?_, rfl⟩
    rw [V_bit xs lm i, getD_past _ _ (by omega)]
    simp

theorem pow_32 (m : Nat) : 4294967296 ^ m = 2 ^ (32 * m) := by rw [Nat.pow_mul]

end Go.Proofs.YtefdkajjdaplbaaGreatDoor
