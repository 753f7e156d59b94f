/-
  foundryref01.Small, Gcd: the walks.
-/
import Derived.Test.YtefdkajjdaplbaaDoorGcd
import Derived.Test.YtefdkajjdaplbaaDoorRDiv
namespace Go.Proofs.YtefdkajjdaplbaaDoor
open Go.RowKit
set_option linter.unusedSimpArgs false
set_option linter.unusedVariables false

set_option maxHeartbeats 1000000 in
set_option maxRecDepth 100000 in
theorem rsmall_any (a : Option Addr) (cap : Nat) (xs : List Nat) (w : World) (h : Rd w a cap xs) (hl : xs.length ≤ 1000000000) :
    Calls Tryd.prog 37 #[.slice a xs.length cap] w fun e w' => e = .returned (.tuple #[.int .u64 (smallN (V xs) : Nat), .bool (isSmall (V xs))]) ∧ Below w.heap.size w w' := by
  go_enter Tryd.func37, Tryd.ntmps37
  go_wp2_with fail
  refine (rtrim_any a cap xs _ h hl).mono ?_
  rintro e w1 ⟨aT, cT, rfl, hT, hb1⟩
  have Xr := hT.rd
  have tX := tr_strip xs
  clear h hT
  have HV : Hid (V (strip xs) = V xs) := V_strip xs
  generalize strip xs = X at Xr tX HV ⊢
  have k1 := Xr.le
  have k2 := Xr.cap
  unfold maxLen at k2
  have fX := Xr.fm
  have lX := Xr.lim
  clear Xr
  by_cases hl : 2 < X.length
  · have HG : Hid (¬ V xs < 18446744073709551616) := by show ¬ _; rw [← HV.out]; exact V_three_ge tX hl
    go_wp2
    go_ret2
    exact ⟨by rw [smallN_ge HG.out, isSmall_ge HG.out]; rfl, hb1⟩
  · have HG : Hid (V xs < 18446744073709551616) := by show _ < _; rw [← HV.out]; exact V_two_lt lX (by omega)
    go_wp2
    go_loop [5, 6] (fun n i => ∃ (k m : Nat) (q : Int), k ≤ X.length ∧ q = (k : Int) - 1 ∧ i = .int .i64 q ∧ n = .int .u64 m ∧ m = V (X.drop k)) (fun _ i => (intOf i + 1).toNat)
    case atStart => exact ⟨X.length, 0, _, Nat.le_refl _, rfl, rfl, rfl, by simp [V]⟩
    case round =>
      obtain ⟨k, m, q, hk, hq, rfl, rfl, hm⟩ := hrel
      have HM : Hid (m = V (X.drop k)) := hm
      clear hm
      by_cases hk0 : k = 0
      · subst hk0
        obtain rfl : q = -1 := by omega
        clear hq
        go_wp2
        go_ret2
        refine ⟨?_, hb1⟩
        rw [smallN_lt HG.out, isSmall_lt HG.out, ← HV.out]
        have := HM.out
        rw [List.drop_zero] at this
        rw [← this]
        rfl
      · obtain ⟨j, rfl⟩ : ∃ j, k = j + 1 := ⟨k - 1, by omega⟩
        obtain rfl : q = (j : Int) := by omega
        clear hq
        obtain ⟨bl, ol, rfl, _, hcx⟩ := fX.at (Below.refl _ _) j (by omega)
        obtain ⟨x, hx⟩ : ∃ x, X.getD j 0 = x := ⟨_, rfl⟩
        have bx : x < 4294967296 := by rw [← hx]; exact lX.getD j
        rw [hx] at hcx
        have hd := V_drop X j
        rw [hx, ← HM.out] at hd
        have hlt : V (X.drop j) < 18446744073709551616 := V_two_lt (lX.drop j) (by simp; omega)
        have hb2 : x + 4294967296 * m < 18446744073709551616 := by omega
        have HD : Hid (V (X.drop j) = x + 4294967296 * m) := hd
        clear hx hd hlt
        go_wp2
        go_round
        case rel => exact ⟨j, m * 4294967296 + x, _, by omega, rfl, by go_num, congrArg (Value.int .u64) (by omega), by rw [HD.out]; omega⟩
        case measure => simp [intOf]

end Go.Proofs.YtefdkajjdaplbaaDoor
