/-
  nat.significant: the walk.
-/
import Derived.Test.YtefdkajjdaplbabDoorMem
import Derived.Test.YtefdkajjdaplbabDoorProg
namespace Go.Proofs.YtefdkajjdaplbabDoor
open Go.RowKit
set_option linter.unusedSimpArgs false
set_option linter.unusedVariables false

theorem ret_slice {a a' : Option Addr} {n n' c c' : Nat} (h1 : a = a') (h2 : n = n') (h3 : c = c') : Ending.returned (.slice a n c) = .returned (.slice a' n' c') := by rw [h1, h2, h3]

set_option maxHeartbeats 400000 in
theorem sig_any (a : Option Addr) (cap : Nat) (xs : List Nat) (w : World) (h : Rd w a cap xs) :
    Calls Tryd.prog 19 #[.slice a xs.length cap] w fun e w' => e = .returned (.slice a (strip xs).length cap) ∧ w = w' := by
  have hc2 : xs.length ≤ cap := h.2.1
  have hc3 : cap ≤ maxLen := h.2.2.1
  unfold maxLen at hc3
  rcases h.2.2.2.2 with rfl | ⟨b, off, rfl, hb, hc⟩
  · go_enter Tryd.func19, Tryd.ntmps19
    go_wp2
    go_loop [3] (fun n => n = .int .i64 0) (fun n => (intOf n).toNat)
    case atStart => rfl
    case round =>
      subst hrel
      go_wp2
      all_goals
        go_ret
        exact ⟨ret_slice (by simp [Addr.add]) rfl rfl, rfl⟩
  · clear h
    go_enter Tryd.func19, Tryd.ntmps19
    go_wp2
    go_loop [3] (fun n => ∃ k : Nat, k ≤ xs.length ∧ n = .int .i64 k ∧ strip (xs.take k) = strip xs) (fun n => (intOf n).toNat)
    case atStart => exact ⟨xs.length, Nat.le_refl _, rfl, by rw [List.take_length]⟩
    case round =>
      obtain ⟨k, hk, rfl, hst⟩ := hrel
      have HS : Hid (strip (xs.take k) = strip xs) := hst
      clear hst
      by_cases hk0 : k = 0
      · subst hk0
        go_wp2
        go_ret
        exact ⟨ret_slice rfl (by rw [← HS.out]; rfl) rfl, rfl⟩
      · obtain ⟨j, rfl⟩ : ∃ j, k = j + 1 := ⟨k - 1, by omega⟩
        have hcj := hc j (by omega)
        obtain ⟨x, hx⟩ : ∃ x, xs.getD j 0 = x := ⟨_, rfl⟩
        rw [hx] at hcj
        have HX : Hid (xs.getD j 0 = x) := hx
        clear hx hc
        by_cases hx0 : x = 0
        · subst hx0
          go_wp2
          go_round
          case rel => exact ⟨j, by omega, rfl, by rw [← HS.out, strip_take_zero xs j (by omega) HX.out]⟩
          case measure => simp [intOf]
        · have hx1 : ((x : Int) == 0) = false := by simp; omega
          go_wp2
          go_ret
          have e : strip xs = xs.take (j + 1) := by rw [← HS.out]; exact strip_take_some xs j (by omega) (by rw [HX.out]; exact hx0)
          exact ⟨ret_slice rfl (by rw [e]; simp; omega) rfl, rfl⟩

end Go.Proofs.YtefdkajjdaplbabDoor
