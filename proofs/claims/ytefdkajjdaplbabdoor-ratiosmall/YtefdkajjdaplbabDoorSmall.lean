/-
  nat.Small: the walk.
-/
import Derived.Test.YtefdkajjdaplbabDoorDivB
namespace Go.Proofs.YtefdkajjdaplbabDoor
open Go.RowKit
set_option linter.unusedSimpArgs false
set_option linter.unusedVariables false

/-- The value, if it has 64 bits; else 0. -/
def smallN (v : Nat) : Nat := if v < 18446744073709551616 then v else 0
theorem smallN_lt {v : Nat} (h : v < 18446744073709551616) : smallN v = v := by unfold smallN; rw [if_pos h]
theorem smallN_ge {v : Nat} (h : ¬ v < 18446744073709551616) : smallN v = 0 := by unfold smallN; rw [if_neg h]
def isSmall (v : Nat) : Bool := decide (v < 18446744073709551616)
theorem isSmall_lt {v : Nat} (h : v < 18446744073709551616) : isSmall v = true := by simp [isSmall, h]
theorem isSmall_ge {v : Nat} (h : ¬ v < 18446744073709551616) : isSmall v = false := by simp [isSmall, h]

theorem or_zero (x : Nat) (hx : x < 4294967296) : bits BinOp.or IntKind.u64 0 (x : Int) = (x : Int) := by
  have h := u64_or_nat 0 x (by decide) (by omega)
  simpa using h
theorem or_high (n x : Nat) (hn : n < 4294967296) (hx : x < 4294967296) : bits BinOp.or IntKind.u64 (n : Int) ((x : Int) * 4294967296) = (n : Int) + (x : Int) * 4294967296 := by
  have h := u64_or_nat n (x * 4294967296) (by omega) (by omega)
  have e : n ||| x * 4294967296 = n + x * 4294967296 := by
    have := Nat.shiftLeft_add_eq_or_of_lt (show n < 2 ^ 32 by omega) x
    rw [Nat.shiftLeft_eq] at this
    rw [Nat.or_comm, Nat.add_comm]
    exact this.symm
  rw [e] at h
  have c1 : ((x * 4294967296 : Nat) : Int) = (x : Int) * 4294967296 := by simp
  rw [c1] at h
  rw [h]; simp

theorem V_two_lt {X : List Nat} (l : Lim X) (h : X.length ≤ 2) : V X < 18446744073709551616 := by
  have h1 := V_lt l
  have h2 : 4294967296 ^ X.length ≤ 4294967296 ^ 2 := Nat.pow_le_pow_right (by decide) h
  omega
theorem V_three_ge {X : List Nat} (t : Tr X) (h : 2 < X.length) : ¬ V X < 18446744073709551616 := by
  intro hv
  have := len_le_of_V t (k := 2) hv
  omega

set_option maxHeartbeats 1000000 in
theorem small_any (a : Option Addr) (cap : Nat) (xs : List Nat) (w : World) (h : Rd w a cap xs) :
    Calls Tryd.prog 33 #[.slice a xs.length cap] w fun e w' => e = .returned (.tuple #[.int .u64 (smallN (V xs) : Nat), .bool (isSmall (V xs))]) ∧ w = w' := by
  have Xr := h.strip
  have tX := tr_strip xs
  go_enter Tryd.func33, Tryd.ntmps33
  go_wp2_with fail
  refine (sig_any a cap xs _ h).mono ?_
  rintro e w' ⟨rfl, rfl⟩
  clear h
  have HV : Hid (V (strip xs) = V xs) := V_strip xs
  generalize strip xs = X at Xr tX HV ⊢
  have k1 := Xr.le
  have k2 := Xr.cap
  unfold maxLen at k2
  have fX := Xr.fm
  have lX := Xr.lim
  clear Xr
  by_cases hl : 2 < X.length
  · have HG : Hid (¬ V xs < 18446744073709551616) := by show ¬ _; rw [← HV.out]; exact V_three_ge tX hl
    go_wp2
    go_ret2
    exact ⟨by rw [smallN_ge HG.out, isSmall_ge HG.out]; rfl, rfl⟩
  · have HG : Hid (V xs < 18446744073709551616) := by show _ < _; rw [← HV.out]; exact V_two_lt lX (by omega)
    go_wp2
    go_loop [4, 14] (fun n i => ∃ (k m : Nat), k ≤ X.length ∧ i = .int .i64 k ∧ n = .int .u64 m ∧ m = V (X.take k)) (fun _ i => X.length - (intOf i).toNat)
    case atStart => exact ⟨0, 0, Nat.zero_le _, rfl, rfl, by simp [V]⟩
    case round =>
      obtain ⟨k, m, hk, rfl, rfl, hm⟩ := hrel
      have HM : Hid (m = V (X.take k)) := hm
      clear hm
      by_cases hkn : k < X.length
      · obtain ⟨bl, ol, rfl, _, hcx⟩ := fX.at (Below.refl _ _) k hkn
        obtain ⟨x, hx⟩ : ∃ x, X.getD k 0 = x := ⟨_, rfl⟩
        have bx : x < 4294967296 := by rw [← hx]; exact lX.getD k
        rw [hx] at hcx
        have HX : Hid (X.getD k 0 = x) := hx
        clear hx
        have HS := V_take_succ X k
        rcases (show k = 0 ∨ k = 1 by omega) with hk0 | hk1
        · subst hk0
          rw [Nat.add_zero] at hcx
          obtain rfl : m = 0 := by rw [HM.out]; simp [V]
          have ho := or_zero x bx
          have HS2 : Hid (x = V (X.take 1)) := by show _ = _; rw [HS, HX.out]; simp [V]
          clear HS
          go_wp2
          go_round
          case rel => exact ⟨1, x, by omega, by go_num, by go_num, HS2.out⟩
          case measure => simp [intOf]; omega
        · subst hk1
          have hmb : m < 4294967296 := by
            rw [HM.out, V_take_Sv, Sv, Sv]; simp only [Nat.pow_zero, Nat.one_mul, Nat.zero_add]; exact lX.getD 0
          have ho := or_high m x hmb bx
          have HS2 : Hid (m + x * 4294967296 = V (X.take 2)) := by show _ = _; rw [HS, HX.out, ← HM.out]; omega
          clear HS
          go_wp2
          go_round
          case rel => exact ⟨2, m + x * 4294967296, by omega, by go_num, by go_num, HS2.out⟩
          case measure => simp [intOf]; omega
      · obtain rfl : k = X.length := by omega
        go_wp2
        go_ret2
        refine ⟨?_, rfl⟩
        rw [smallN_lt HG.out, isSmall_lt HG.out, ← HV.out]
        have := HM.out
        rw [List.take_length] at this
        rw [← this]
        rfl

end Go.Proofs.YtefdkajjdaplbabDoor
