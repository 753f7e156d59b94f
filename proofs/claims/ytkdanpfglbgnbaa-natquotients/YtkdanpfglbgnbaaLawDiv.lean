/-
  foundrylaw01.NatQuotients: the walk.
-/
import Derived.Test.YtkdanpfglbgnbaaLaw0
import Derived.Test.YtkdanpfglbgnbaaRDiv
namespace Go.Proofs.Ytkdanpfglbgnbaa
open Go.RowKit
set_option linter.unusedSimpArgs false
set_option linter.unusedVariables false

set_option maxHeartbeats 1600000 in
theorem walkNatQuotients (a0 : Option Addr) (len0 cap0 : Nat) (z0 : List Int) (a1 : Option Addr) (len1 cap1 : Nat) (z1 : List Int) (w : World) (w0 : IsRow .u32 w a0 len0 cap0 z0) (w1 : IsRow .u32 w a1 len1 cap1 z1) :
    Calls Try.prog 7 #[.slice a0 len0 cap0, .slice a1 len1 cap1] w fun e w' => e = .returned (.bool true) ∧ Below w.heap.size w w' := by
  obtain ⟨xs, rfl, h0⟩ := w0.rd
  obtain ⟨ys, rfl, h1⟩ := w1.rd
  clear w0 w1
  have b0 : xs.length ≤ 9223372036854775807 := by have := h0.le; have := h0.cap; unfold maxLen at this; omega
  have b1 : ys.length ≤ 9223372036854775807 := by have := h1.le; have := h1.cap; unfold maxLen at this; omega
  go_enter Try.func7, Try.ntmps7
  go_wp2_with fail
  refine (awake_any _).mono ?_
  rintro e u1 ⟨rfl, hu1⟩
  go_wp2_with fail
  refine (few_any _ _ _ _ _ _ _ b0 b1).mono ?_
  rintro e u2 ⟨rfl, rfl⟩
  by_cases hf : xs.length ≤ 12 ∧ ys.length ≤ 12
  · have hd : decide (xs.length ≤ 12 ∧ ys.length ≤ 12) = true := by simp [hf]
    rw [hd]
    have hf1 := hf.1
    have hf2 := hf.2
    clear hf hd
    go_wp2_with fail
    refine (div_any _ _ _ _ _ _ _ (h0.below hu1) (h1.below hu1) (by omega) (by omega)).mono ?_
    rintro e u3 ⟨a3, c3, z3, a4, c4, z4, rfl, hv3, hv4, ht3, ht4, hr3, hr4, hu3⟩
    have hb3 : Below w.heap.size w u3 := hu1.trans (hu3.mono hu1.size)
    have r3 := hr3.rd
    have r4 := hr4.rd
    have HV3 : Hid (V z3 = _) := hv3
    have HV4 : Hid (V z4 = _) := hv4
    clear hr3 hr4 hu3 hv3 hv4
    go_wp2_with fail
    refine (rdiv_any _ _ _ _ _ _ _ (h0.below hb3) (h1.below hb3) (by omega) (by omega)).mono ?_
    rintro e u4 ⟨a5, c5, z5, a6, c6, z6, rfl, hv5, hv6, ht5, ht6, hr5, hr6, hu4⟩
    have r5 := hr5.rd
    have r6 := hr6.rd
    have r3' := r3.below hu4
    have r4' := r4.below hu4
    have hb4 : Below w.heap.size w u4 := hb3.trans (hu4.mono hb3.size)
    have hz : z5 = z3 := uniq r5.lim r3.lim ht5 ht3 (by rw [HV3.out, hv5])
    have hz' : z6 = z4 := uniq r6.lim r4.lim ht6 ht4 (by rw [HV4.out, hv6])
    subst hz
    subst hz'
    clear hv5 hv6 r3 r4 hr5 hr6
    go_wp2_with fail
    refine (same_any _ _ _ _ _ _ r3' r5).mono ?_
    rintro e u5 ⟨rfl, hu5⟩
    have hb5 : Below w.heap.size w u5 := hb4.trans (hu5.mono hb4.size)
    have r4'' := r4'.below hu5
    have r6' := r6.below hu5
    go_wp2_with fail
    refine (same_any _ _ _ _ _ _ r4'' r6').mono ?_
    rintro e u6 ⟨rfl, hu6⟩
    go_wp2
    go_ret
    exact ⟨rfl, hb5.trans (hu6.mono hb5.size)⟩
  · have hd : decide (xs.length ≤ 12 ∧ ys.length ≤ 12) = false := by simpa using hf
    rw [hd]
    go_wp2_with fail
    refine (awake_any _).mono ?_
    rintro e u3 ⟨rfl, hu3⟩
    go_wp2
    go_ret
    exact ⟨rfl, hu1.trans (hu3.mono hu1.size)⟩

end Go.Proofs.Ytkdanpfglbgnbaa
