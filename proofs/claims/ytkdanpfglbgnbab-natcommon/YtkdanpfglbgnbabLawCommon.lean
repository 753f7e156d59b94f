/-
  foundrylaw01.NatCommon: the walk.
-/
import Derived.Test.YtkdanpfglbgnbabLaw0
import Derived.Test.YtkdanpfglbgnbabRGcd
namespace Go.Proofs.Ytkdanpfglbgnbab
open Go.RowKit
set_option linter.unusedSimpArgs false
set_option linter.unusedVariables false

set_option maxHeartbeats 800000 in
theorem walkNatCommon (a0 : Option Addr) (len0 cap0 : Nat) (z0 : List Int) (a1 : Option Addr) (len1 cap1 : Nat) (z1 : List Int) (w : World) (w0 : IsRow .u32 w a0 len0 cap0 z0) (w1 : IsRow .u32 w a1 len1 cap1 z1) :
    Calls Try.prog 4 #[.slice a0 len0 cap0, .slice a1 len1 cap1] w fun e w' => e = .returned (.bool true) ∧ Below w.heap.size w w' := by
  obtain ⟨xs, rfl, h0⟩ := w0.rd
  obtain ⟨ys, rfl, h1⟩ := w1.rd
  clear w0 w1
  have b0 : xs.length ≤ 9223372036854775807 := by have := h0.le; have := h0.cap; unfold maxLen at this; omega
  have b1 : ys.length ≤ 9223372036854775807 := by have := h1.le; have := h1.cap; unfold maxLen at this; omega
  go_enter Try.func4, Try.ntmps4
  go_wp2_with fail
  refine (awake_any _).mono ?_
  rintro e u1 ⟨rfl, hu1⟩
  go_wp2_with fail
  refine (few_any _ _ _ _ _ _ _ b0 b1).mono ?_
  rintro e u2 ⟨rfl, rfl⟩
  by_cases hf : xs.length ≤ 12 ∧ ys.length ≤ 12
  · have hd : decide (xs.length ≤ 12 ∧ ys.length ≤ 12) = true := by simp [hf]
    rw [hd]
    have hf1 := hf.1
    have hf2 := hf.2
    clear hf hd
    go_wp2_with fail
    refine (gcd_any _ _ _ _ _ _ _ (h0.below hu1) (h1.below hu1) (by omega) (by omega)).mono ?_
    rintro e u3 ⟨a3, c3, z3, rfl, hv3, ht3, hr3, hu3⟩
    have hb3 : Below w.heap.size w u3 := hu1.trans (hu3.mono hu1.size)
    have r3 := hr3.rd
    have HV3 : Hid (V z3 = _) := hv3
    clear hr3 hu3 hv3
    go_wp2_with fail
    refine (rgcd_any _ _ _ _ _ _ _ (h0.below hb3) (h1.below hb3) (by omega) (by omega)).mono ?_
    rintro e u4 ⟨a4, c4, z4, rfl, hv4, ht4, hr4, hu4⟩
    have r4 := hr4.rd
    have r3' := r3.below hu4
    have hb4 : Below w.heap.size w u4 := hb3.trans (hu4.mono hb3.size)
    have hz : z4 = z3 := uniq r4.lim r3.lim ht4 ht3 (by rw [HV3.out, hv4])
    subst hz
    clear hv4
    go_wp2_with fail
    refine (same_any _ _ _ _ _ _ r3' r4).mono ?_
    rintro e u5 ⟨rfl, hu5⟩
    go_wp2
    go_ret
    exact ⟨rfl, hb4.trans (hu5.mono hb4.size)⟩
  · have hd : decide (xs.length ≤ 12 ∧ ys.length ≤ 12) = false := by simpa using hf
    rw [hd]
    go_wp2_with fail
    refine (awake_any _).mono ?_
    rintro e u3 ⟨rfl, hu3⟩
    go_wp2
    go_ret
    exact ⟨rfl, hu1.trans (hu3.mono hu1.size)⟩

end Go.Proofs.Ytkdanpfglbgnbab
