/-
  foundrylaw01.NatCompares: the walk.
-/
import Derived.Test.YtkdanpfglbgnbaaLaw0
import Derived.Test.YtkdanpfglbgnbaaRCmp
namespace Go.Proofs.Ytkdanpfglbgnbaa
open Go.RowKit
set_option linter.unusedSimpArgs false
set_option linter.unusedVariables false

set_option maxHeartbeats 800000 in
theorem walkNatCompares (a0 : Option Addr) (len0 cap0 : Nat) (z0 : List Int) (a1 : Option Addr) (len1 cap1 : Nat) (z1 : List Int) (w : World) (w0 : IsRow .u32 w a0 len0 cap0 z0) (w1 : IsRow .u32 w a1 len1 cap1 z1) :
    Calls Try.prog 3 #[.slice a0 len0 cap0, .slice a1 len1 cap1] w fun e w' => e = .returned (.bool true) ∧ Below w.heap.size w w' := by
  obtain ⟨xs, rfl, h0⟩ := w0.rd
  obtain ⟨ys, rfl, h1⟩ := w1.rd
  clear w0 w1
  have b0 : xs.length ≤ 9223372036854775807 := by have := h0.le; have := h0.cap; unfold maxLen at this; omega
  have b1 : ys.length ≤ 9223372036854775807 := by have := h1.le; have := h1.cap; unfold maxLen at this; omega
  go_enter Try.func3, Try.ntmps3
  go_wp2_with fail
  refine (awake_any _).mono ?_
  rintro e u1 ⟨rfl, hu1⟩
  go_wp2_with fail
  refine (few_any _ _ _ _ _ _ _ b0 b1).mono ?_
  rintro e u2 ⟨rfl, rfl⟩
  by_cases hf : xs.length ≤ 12 ∧ ys.length ≤ 12
  · have hd : decide (xs.length ≤ 12 ∧ ys.length ≤ 12) = true := by simp [hf]
    rw [hd]
    go_wp2_with fail
    refine (cmp_any _ _ _ _ _ _ _ (h0.below hu1) (h1.below hu1)).mono ?_
    rintro e u3 ⟨rfl, hu3⟩
    have hb3 : Below w.heap.size w u3 := hu1.trans (hu3.mono hu1.size)
    go_wp2_with fail
    refine (rcmp_any _ _ _ _ _ _ _ (h0.below hb3) (h1.below hb3)).mono ?_
    rintro e u4 ⟨rfl, rfl⟩
    go_wp2
    go_ret
    exact ⟨ret_bool (by simp), hb3⟩
  · have hd : decide (xs.length ≤ 12 ∧ ys.length ≤ 12) = false := by simpa using hf
    rw [hd]
    go_wp2_with fail
    refine (awake_any _).mono ?_
    rintro e u3 ⟨rfl, hu3⟩
    go_wp2
    go_ret
    exact ⟨rfl, hu1.trans (hu3.mono hu1.size)⟩

end Go.Proofs.Ytkdanpfglbgnbaa
